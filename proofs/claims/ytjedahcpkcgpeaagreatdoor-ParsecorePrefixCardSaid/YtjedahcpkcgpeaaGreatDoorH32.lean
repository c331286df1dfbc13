/-
  Walks and plain mathematics, several texts in one (Fm Lv Lw Lx Ly Lz Ma Mb Mc Me Mf Mg).
-/
import Derived.Test.YtjedahcpkcgpeaaGreatDoorH31
import Derived.Test.YtjedahcpkcgpeaaGreatDoorH22
import Derived.Deep.RegionWith
/-
  Plain mathematics of layer 4: what is read depends on the tokens up to where it ends alone. No program.
-/
namespace Go.Proofs.YtjedahcpkcgpeaaGreatDoor.Pl
open Go
set_option linter.unusedSimpArgs false
structure Agree (l l' : List Tok) (d e : Nat) : Prop where
  kind : ∀ i, i < e → (tkAt l' (i + d)).kind = (tkAt l i).kind
  text : ∀ i, i < e → (tkAt l' (i + d)).text = (tkAt l i).text
  len : e ≤ l.length + 1
  len' : e + d ≤ l'.length + 1
theorem add_swap {d x : Nat} : x + d + 1 = x + 1 + d := by omega
def Loc {α : Type} (d e i : Nat) (r r' : PR α) : Prop := match r with
  | .ok v j => i ≤ j ∧ (j < e → r' = .ok v (j + d))
  | .bad j => i ≤ j ∧ (j < e → r' = .bad (j + d))
section
variable {d e i k : Nat} {α β : Type}
theorem Loc.ok {v v' : α} {j j' : Nat} (hij : i ≤ j) (hj : j' = j + d) (hv : j < e → v = v') : Loc d e i (.ok v j) (.ok v' j') := ⟨hij, fun h => by rw [hv h, hj]⟩
theorem Loc.bad {j j' : Nat} (hij : i ≤ j) (hj : j' = j + d) : Loc d e i (.bad j : PR α) (.bad j') := ⟨hij, fun _ => by rw [hj]⟩
theorem Loc.mono {r r' : PR α} (h : Loc d e k r r') (hik : i ≤ k) : Loc d e i r r' := by
  cases r with
  | ok v j => exact ⟨Nat.le_trans hik h.1, h.2⟩
  | bad j => exact ⟨Nat.le_trans hik h.1, h.2⟩
theorem Loc.far {r r' : PR α} (h : Lo r k) (hk : e ≤ k) (hik : i ≤ k) : Loc d e i r r' := by
  cases r with
  | ok v j => have := h.1 v j rfl; exact ⟨by omega, fun h => by omega⟩
  | bad j => have := h.2 j rfl; exact ⟨by omega, fun h => by omega⟩
theorem Loc.next {r r' : PR α} {f f' : α → Nat → PR β} (h : Loc d e i r r') (g : ∀ v j, i ≤ j → Loc d e j (f v j) (f' v (j + d))) : Loc d e i (r.then f) (r'.then f') := by
  cases r with
  | bad j =>
    obtain ⟨h1, h2⟩ := h
    exact ⟨h1, fun hj => by rw [h2 hj]; rfl⟩
  | ok v j =>
    obtain ⟨h1, h2⟩ := h
    have hg := g v j h1
    rw [PR.then_ok]
    cases hf : f v j with
    | ok w m =>
      rw [hf] at hg
      exact ⟨Nat.le_trans h1 hg.1, fun hm => by rw [h2 (by have := hg.1; omega), PR.then_ok]; exact hg.2 hm⟩
    | bad m =>
      rw [hf] at hg
      exact ⟨Nat.le_trans h1 hg.1, fun hm => by rw [h2 (by have := hg.1; omega), PR.then_ok]; exact hg.2 hm⟩
theorem Loc.nextA {r r' : PR α} {f f' : α → Nat → PR β} {b : Nat} (h : Loc d e i r r') (ha : After r b) (g : ∀ v j, i ≤ j → b ≤ j → Loc d e j (f v j) (f' v (j + d))) : Loc d e i (r.then f) (r'.then f') := by
  cases r with
  | bad j =>
    obtain ⟨h1, h2⟩ := h
    exact ⟨h1, fun hj => by rw [h2 hj]; rfl⟩
  | ok v j =>
    obtain ⟨h1, h2⟩ := h
    have hg := g v j h1 (ha v j rfl)
    rw [PR.then_ok]
    cases hf : f v j with
    | ok w m =>
      rw [hf] at hg
      exact ⟨Nat.le_trans h1 hg.1, fun hm => by rw [h2 (by have := hg.1; omega), PR.then_ok]; exact hg.2 hm⟩
    | bad m =>
      rw [hf] at hg
      exact ⟨Nat.le_trans h1 hg.1, fun hm => by rw [h2 (by have := hg.1; omega), PR.then_ok]; exact hg.2 hm⟩
theorem Loc.ite {p p' : Prop} [Decidable p] [Decidable p'] {r s r' s' : PR α} (hp : k < e → (p ↔ p')) (hik : i ≤ k) (h : Loc d e k r r') (g : Loc d e k s s') : Loc d e i (if p then r else s) (if p' then r' else s') := by
  refine Loc.mono (k := k) ?_ hik
  by_cases hk : k < e
  · by_cases hq : p
    · rw [if_pos hq, if_pos ((hp hk).1 hq)]; exact h
    · rw [if_neg hq, if_neg (fun h => hq ((hp hk).2 h))]; exact g
  · have both : ∀ {x x' : PR α}, Loc d e k x x' → ∀ y : PR α, Loc d e k x y := by
      intro x x' hx y
      cases x with
      | ok v j => exact ⟨hx.1, fun h => by have := hx.1; omega⟩
      | bad j => exact ⟨hx.1, fun h => by have := hx.1; omega⟩
    by_cases hq : p
    · rw [if_pos hq]; exact both h _
    · rw [if_neg hq]; exact both g _
end
section
variable {l l' : List Tok} {d e : Nat} (A : Agree l l' d e)
include A
theorem Agree.fix {k : Nat} (h : k < e) : fixedT (tkAt l' (k + d)) = fixedT (tkAt l k) := by unfold fixedT; rw [A.kind k h, A.text k h]
theorem Agree.pass {k : Nat} {b : Bytes} (h : k < e) : (passes l k b = true ↔ passes l' (k + d) b = true) := by unfold passes; rw [A.fix h]
theorem Agree.kindIff {k : Nat} {c : Int} (h : k < e) : ((tkAt l k).kind = c ↔ (tkAt l' (k + d)).kind = c) := by rw [A.kind k h]
theorem Agree.kindNe {k : Nat} {c : Int} (h : k < e) : ((tkAt l k).kind ≠ c ↔ (tkAt l' (k + d)).kind ≠ c) := by rw [A.kind k h]
theorem Agree.begA {k : Nat} (h : k < e) : (begArg (tkAt l k) = true ↔ begArg (tkAt l' (k + d)) = true) := by unfold begArg; rw [A.kind k h, A.fix h]
theorem Agree.begT {k : Nat} (h : k < e) : (begAtom (tkAt l k) = true ↔ begAtom (tkAt l' (k + d)) = true) := by unfold begAtom; rw [A.kind k h, A.fix h]
theorem Agree.opr {k : Nat} (h : k < e) : opOf (tkAt l' (k + d)) = opOf (tkAt l k) := by unfold opOf; rw [A.fix h]
theorem Agree.postIff {k n : Nat} (h : k < e) : ((1 < n ∨ (tkAt l k).kind = 1 ∨ (tkAt l k).kind = 2) ↔ (1 < n ∨ (tkAt l' (k + d)).kind = 1 ∨ (tkAt l' (k + d)).kind = 2)) := by rw [A.kind k h]
theorem Agree.contIff {k n : Nat} {b : Bytes} (h : k < e) : ((n = 1 ∧ passes l k b = true) ↔ (n = 1 ∧ passes l' (k + d) b = true)) := by rw [A.pass h]
theorem loc_take (c : Int) (i : Nat) : Loc d e i (takeK l c i) (takeK l' c (i + d)) := by
  unfold takeK
  exact Loc.ite (fun h => A.kindIff h) (Nat.le_refl _) (Loc.ok (by omega) (by omega) (fun h => (A.text i (by omega)).symm)) (Loc.bad (by omega) rfl)
theorem loc_need (b : Bytes) (i : Nat) : Loc d e i (needT l b i) (needT l' b (i + d)) := by
  unfold needT
  exact Loc.ite (fun h => A.pass h) (Nat.le_refl _) (Loc.ok (by omega) (by omega) (fun _ => rfl)) (Loc.bad (by omega) rfl)
theorem Agree.far {i n : Nat} (h : l.length < i + n) (hn : n = 0) : e ≤ i := by have := A.len; omega
theorem Agree.far' {i n : Nat} (h : l'.length < i + d + n) (hn : n = 0) : e ≤ i := by have := A.len'; omega
theorem loc_mpMore : ∀ (n n' : Nat) (acc : List ByteArray) (i : Nat), l.length < i + n → l'.length < i + d + n' → Loc d e i (mpMore l n acc i) (mpMore l' n' acc (i + d)) := by
  intro n
  induction n with
  | zero => intro n' acc i h1 h2; exact Loc.far (lo_mpMore l _ _ _) (A.far h1 rfl) (Nat.le_refl _)
  | succ n ih =>
    intro n' acc i h1 h2
    cases n' with
    | zero => exact Loc.far (lo_mpMore l _ _ _) (A.far' h2 rfl) (Nat.le_refl _)
    | succ n' =>
      rw [mpMore, mpMore]
      refine Loc.ite (k := i) (fun h => A.pass h) (Nat.le_refl _) ?_ (Loc.ok (Nat.le_refl _) rfl (fun _ => rfl))
      rw [show i + d + 1 = i + 1 + d from by omega]
      refine Loc.mono (k := i + 1) ?_ (by omega)
      exact Loc.next (loc_take A _ _) fun v j hj => ih n' _ j (by omega) (by omega)
theorem loc_mpath (i : Nat) : Loc d e i (mpath l i) (mpath l' (i + d)) := Loc.next (loc_take A _ _) fun v j hj => loc_mpMore A (l.length + 1) (l'.length + 1) _ j (by omega) (by omega)
theorem loc_tpMore : ∀ (n n' : Nat) (acc : List ByteArray) (i : Nat), l.length < i + n → l'.length < i + d + n' → Loc d e i (tpMore l n acc i) (tpMore l' n' acc (i + d)) := by
  intro n
  induction n with
  | zero => intro n' acc i h1 h2; exact Loc.far (lo_tpMore l _ _ _) (A.far h1 rfl) (Nat.le_refl _)
  | succ n ih =>
    intro n' acc i h1 h2
    cases n' with
    | zero => exact Loc.far (lo_tpMore l _ _ _) (A.far' h2 rfl) (Nat.le_refl _)
    | succ n' =>
      rw [tpMore, tpMore]
      refine Loc.ite (fun h => A.kindIff h) (Nat.le_refl _) ?_ (Loc.next (loc_take A _ _) fun v j hj => Loc.ok (Nat.le_refl _) rfl (fun _ => rfl))
      rw [show i + d + 1 = i + 1 + d from by omega]
      by_cases hi : i < e
      · rw [A.text i hi]
        exact (Loc.next (i := i + 1) (loc_need A _ _) fun v j hj => ih n' _ j (by omega) (by omega)).mono (by omega)
      · exact Loc.far (k := i) (((lo_need l _ (i + 1)).mono (by omega)).next fun _ j hj => (lo_tpMore l _ _ j).mono hj) (by omega) (Nat.le_refl _)
theorem loc_tpath (i : Nat) : Loc d e i (tpath l i) (tpath l' (i + d)) := loc_tpMore A _ _ _ i (by omega) (by omega)
theorem loc_vpMore : ∀ (n n' : Nat) (acc : List ByteArray) (i : Nat), l.length < i + n → l'.length < i + d + n' → Loc d e i (vpMore l n acc i) (vpMore l' n' acc (i + d)) := by
  intro n
  induction n with
  | zero => intro n' acc i h1 h2; exact Loc.far (lo_vpMore l _ _ _) (A.far h1 rfl) (Nat.le_refl _)
  | succ n ih =>
    intro n' acc i h1 h2
    cases n' with
    | zero => exact Loc.far (lo_vpMore l _ _ _) (A.far' h2 rfl) (Nat.le_refl _)
    | succ n' =>
      rw [vpMore, vpMore]
      refine Loc.ite (fun h => A.kindIff h) (Nat.le_refl _) ?_ (Loc.next (loc_take A _ _) fun v j hj => Loc.ok (Nat.le_refl _) rfl (fun _ => rfl))
      rw [show i + d + 1 = i + 1 + d from by omega, show i + d + 2 = i + 2 + d from by omega]
      by_cases hi : i < e
      · rw [A.text i hi]
        exact Loc.ite (fun h => A.pass h) (by omega) ((ih n' _ (i + 2) (by omega) (by omega)).mono (by omega)) (Loc.ok (Nat.le_refl _) rfl (fun _ => rfl))
      · exact Loc.far (k := i) (((lo_vpMore l _ _ _).mono (by omega)).ite (Lo.ok _ (by omega))) (by omega) (Nat.le_refl _)
theorem loc_vpath (i : Nat) : Loc d e i (vpath l i) (vpath l' (i + d)) := loc_vpMore A _ _ _ i (by omega) (by omega)
theorem loc_sig (i : Nat) : Loc d e i (sigOf l i) (sigOf l' (i + d)) := by
  unfold sigOf
  refine Loc.next (loc_mpath A i) fun v j hj => ?_
  exact Loc.ok (Nat.le_refl j) rfl (fun _ => rfl)
theorem loc_namesMore : ∀ (n n' : Nat) (acc : List ByteArray) (i : Nat), l.length < i + n → l'.length < i + d + n' → Loc d e i (namesMore l n acc i) (namesMore l' n' acc (i + d)) := by
  intro n
  induction n with
  | zero => intro n' acc i h1 h2; exact Loc.far (lo_namesMore l _ _ _) (A.far h1 rfl) (Nat.le_refl _)
  | succ n ih =>
    intro n' acc i h1 h2
    cases n' with
    | zero => exact Loc.far (lo_namesMore l _ _ _) (A.far' h2 rfl) (Nat.le_refl _)
    | succ n' =>
      rw [namesMore, namesMore]
      exact Loc.ite (fun h => A.pass h) (Nat.le_refl _) (Loc.ok (by omega) (by omega) (fun _ => rfl)) (Loc.nextA (loc_take A _ _) (after_take l 1 i) fun v j hj ha => ih n' _ j (by omega) (by omega))
theorem loc_sepMore (b : Bytes) {read read' : Nat → PR Syn} (hr : ∀ j, Loc d e j (read j) (read' (j + d))) (hl : ∀ j, Lo (read j) j) : ∀ (n n' : Nat) (acc : List Syn) (i : Nat), l.length < i + n → l'.length < i + d + n' → Loc d e i (sepMore l b read n acc i) (sepMore l' b read' n' acc (i + d)) := by
  intro n
  induction n with
  | zero => intro n' acc i h1 h2; exact Loc.far (lo_sepMore l b hl _ _ _) (A.far h1 rfl) (Nat.le_refl _)
  | succ n ih =>
    intro n' acc i h1 h2
    cases n' with
    | zero => exact Loc.far (lo_sepMore l b hl _ _ _) (A.far' h2 rfl) (Nat.le_refl _)
    | succ n' =>
      rw [sepMore, sepMore]
      refine Loc.ite (k := i) (fun h => A.pass h) (Nat.le_refl _) ?_ (Loc.ok (Nat.le_refl _) rfl (fun _ => rfl))
      rw [show i + d + 1 = i + 1 + d from by omega]
      refine Loc.mono (k := i + 1) ?_ (by omega)
      exact Loc.next (hr _) fun v j hj => ih n' _ j (by omega) (by omega)
theorem loc_sepd (b : Bytes) {read read' : Nat → PR Syn} (hr : ∀ j, Loc d e j (read j) (read' (j + d))) (hl : ∀ j, Lo (read j) j) (i : Nat) : Loc d e i (sepd l b read i) (sepd l' b read' (i + d)) := Loc.next (hr _) fun v j hj => loc_sepMore A b hr hl (l.length + 1) (l'.length + 1) _ j (by omega) (by omega)
theorem loc_postMore : ∀ (n n' : Nat) (ts : List Syn) (i : Nat), l.length < i + n → l'.length < i + d + n' → Loc d e i (postMore l n ts i) (postMore l' n' ts (i + d)) := by
  intro n
  induction n with
  | zero => intro n' ts i h1 h2; exact Loc.far (lo_postMore _ _ _) (A.far h1 rfl) (Nat.le_refl _)
  | succ n ih =>
    intro n' ts i h1 h2
    cases n' with
    | zero => exact Loc.far (lo_postMore _ _ _) (A.far' h2 rfl) (Nat.le_refl _)
    | succ n' =>
      rw [postMore, postMore]
      exact Loc.ite (fun h => A.postIff h) (Nat.le_refl _) (Loc.nextA (loc_tpath A _) (after_tpath l i) fun v j hj ha => ih n' _ j (by omega) (by omega)) (Loc.ok (Nat.le_refl _) rfl (fun _ => rfl))
end
structure LocAll (d e : Nat) (F F' : Fs) : Prop where
  typ : ∀ j, Loc d e j (F.typ j) (F'.typ (j + d))
  prod : ∀ j, Loc d e j (F.prod j) (F'.prod (j + d))
  post : ∀ j, Loc d e j (F.post j) (F'.post (j + d))
  simp : ∀ j, Loc d e j (F.simp j) (F'.simp (j + d))
  brack : ∀ j, Loc d e j (F.brack j) (F'.brack (j + d))
  pat : ∀ j, Loc d e j (F.pat j) (F'.pat (j + d))
  arg : ∀ j, Loc d e j (F.arg j) (F'.arg (j + d))
  comps : ∀ j, Loc d e j (F.comps j) (F'.comps (j + d))
  expr : ∀ j, Loc d e j (F.expr j) (F'.expr (j + d))
  neg : ∀ j, Loc d e j (F.neg j) (F'.neg (j + d))
  app : ∀ j, Loc d e j (F.app j) (F'.app (j + d))
  atom : ∀ j, Loc d e j (F.atom j) (F'.atom (j + d))
  encl : ∀ j, Loc d e j (F.encl j) (F'.encl (j + d))
  cont : ∀ j, Loc d e j (F.cont j) (F'.cont (j + d))
  letE : ∀ j, Loc d e j (F.letE j) (F'.letE (j + d))
  matchE : ∀ j, Loc d e j (F.matchE j) (F'.matchE (j + d))
  rule : ∀ j, Loc d e j (F.rule j) (F'.rule (j + d))
  decl : ∀ j, Loc d e j (F.decl j) (F'.decl (j + d))
  named : ∀ j, Loc d e j (F.named j) (F'.named (j + d))
  unpk : ∀ j, Loc d e j (F.unpk j) (F'.unpk (j + d))
  oper : ∀ q j, Loc d e j (F.oper q j) (F'.oper q (j + d))
structure LocCtx (l l' : List Tok) (d e : Nat) (F F' : Fs) : Prop where
  A : Agree l l' d e
  H : LocAll d e F F'
  hF : Lows F
  hG : Goes F
section
variable {l l' : List Tok} {d e : Nat} {num : Bytes → Int} {F F' : Fs} (K : LocCtx l l' d e F F')
include K
theorem loc_operMore : ∀ (n n' lo most : Nat) (t : Syn) (i : Nat), l.length < i + n → l'.length < i + d + n' → Loc d e i (operMore l F n lo most t i) (operMore l' F' n' lo most t (i + d)) := by
  intro n
  induction n with
  | zero => intro n' lo most t i h1 h2; exact Loc.far (lo_operMore K.hF _ _ _ _ _) (K.A.far h1 rfl) (Nat.le_refl _)
  | succ n ih =>
    intro n' lo most t i h1 h2
    cases n' with
    | zero => exact Loc.far (lo_operMore K.hF _ _ _ _ _) (K.A.far' h2 rfl) (Nat.le_refl _)
    | succ n' =>
      by_cases hi : i < e
      · rw [operMore, operMore, K.A.opr hi, show i + d + 1 = i + 1 + d from by omega]
        exact Loc.ite (k := i) (fun _ => Iff.rfl) (Nat.le_refl _) (Loc.ok (Nat.le_refl _) rfl (fun _ => rfl)) (Loc.mono (k := i + 1) (Loc.next (i := i + 1) (K.H.oper _ (i + 1)) (fun v j hj => ih n' _ _ _ j (by omega) (by omega))) (by omega))
      · exact Loc.far (k := i) (lo_operMore K.hF _ _ _ _ _) (by omega) (Nat.le_refl _)
theorem loc_appMore : ∀ (n n' : Nat) (t : Syn) (i : Nat), l.length < i + n → l'.length < i + d + n' → Loc d e i (appMore l F n t i) (appMore l' F' n' t (i + d)) := by
  intro n
  induction n with
  | zero => intro n' t i h1 h2; exact Loc.far (lo_appMore K.hF _ _ _) (K.A.far h1 rfl) (Nat.le_refl _)
  | succ n ih =>
    intro n' t i h1 h2
    cases n' with
    | zero => exact Loc.far (lo_appMore K.hF _ _ _) (K.A.far' h2 rfl) (Nat.le_refl _)
    | succ n' =>
      rw [appMore, appMore]
      exact Loc.ite (fun h => K.A.begT h) (Nat.le_refl _) (Loc.nextA (K.H.atom _) (K.hG.atom i) fun v j hj ha => ih n' _ j (by omega) (by omega)) (Loc.ok (Nat.le_refl _) rfl (fun _ => rfl))
theorem loc_declMore : ∀ (n n' : Nat) (ts : List Syn) (i : Nat), l.length < i + n → l'.length < i + d + n' → Loc d e i (declMore l F n ts i) (declMore l' F' n' ts (i + d)) := by
  intro n
  induction n with
  | zero => intro n' ts i h1 h2; exact Loc.far (lo_declMore K.hF _ _ _) (K.A.far h1 rfl) (Nat.le_refl _)
  | succ n ih =>
    intro n' ts i h1 h2
    cases n' with
    | zero => exact Loc.far (lo_declMore K.hF _ _ _) (K.A.far' h2 rfl) (Nat.le_refl _)
    | succ n' =>
      rw [declMore, declMore]
      exact Loc.ite (fun h => K.A.pass h) (Nat.le_refl _) (Loc.ok (by omega) (by omega) (fun _ => rfl)) (Loc.nextA (K.H.decl _) (K.hG.decl i) fun v j hj ha => ih n' _ j (by omega) (by omega))
theorem locb_fn (i : Nat) : Loc d e i (fnB l F i) (fnB l' F' (i + d)) := by
  unfold fnB
  try simp only [show ∀ x : Nat, x + d + 1 = x + 1 + d from fun x => by omega]
  repeat' (first | assumption | rw [show ∀ x : Nat, x + d + 1 = x + 1 + d from fun x => by omega] | exact Loc.ok (by omega) (by omega) (fun _ => rfl) | exact Loc.ok (by omega) (by omega) (fun h => by rw [K.A.text _ (by omega)]) | exact Loc.bad (by omega) (by omega) | (with_reducible refine Loc.ite (fun h => K.A.pass h) (by omega) ?_ ?_) | (with_reducible refine Loc.ite (fun h => K.A.kindIff h) (by omega) ?_ ?_) | (with_reducible refine Loc.ite (fun h => K.A.kindNe h) (by omega) ?_ ?_) | (with_reducible refine Loc.ite (fun h => K.A.begA h) (by omega) ?_ ?_) | (with_reducible refine Loc.ite (fun h => K.A.begT h) (by omega) ?_ ?_) | (with_reducible refine Loc.ite (fun h => K.A.postIff h) (by omega) ?_ ?_) | (with_reducible refine Loc.ite (fun h => K.A.contIff h) (by omega) ?_ ?_) | exact Loc.mono (loc_take K.A _ _) (by omega) | exact Loc.mono (loc_need K.A _ _) (by omega) | exact Loc.mono (loc_mpath K.A _) (by omega) | exact Loc.mono (loc_tpath K.A _) (by omega) | exact Loc.mono (loc_vpath K.A _) (by omega) | exact Loc.mono (loc_sig K.A _) (by omega) | exact Loc.mono (loc_namesMore K.A (l.length + 1) (l'.length + 1) _ _ (by omega) (by omega)) (by omega) | exact Loc.mono (loc_postMore K.A (l.length + 2) (l'.length + 2) _ _ (by omega) (by omega)) (by omega) | exact Loc.mono (loc_operMore K (l.length + 1) (l'.length + 1) _ _ _ _ (by omega) (by omega)) (by omega) | exact Loc.mono (loc_appMore K (l.length + 1) (l'.length + 1) _ _ (by omega) (by omega)) (by omega) | exact Loc.mono (loc_declMore K (l.length + 1) (l'.length + 1) _ _ (by omega) (by omega)) (by omega) | exact Loc.mono (loc_sepd K.A _ K.H.post K.hF.post _) (by omega) | exact Loc.mono (loc_sepd K.A _ K.H.typ K.hF.typ _) (by omega) | exact Loc.mono (loc_sepd K.A _ K.H.pat K.hF.pat _) (by omega) | exact Loc.mono (loc_sepd K.A _ K.H.expr K.hF.expr _) (by omega) | exact Loc.mono (loc_sepd K.A _ K.H.rule K.hF.rule _) (by omega) | exact Loc.mono (K.H.typ _) (by omega) | exact Loc.mono (K.H.prod _) (by omega) | exact Loc.mono (K.H.post _) (by omega) | exact Loc.mono (K.H.simp _) (by omega) | exact Loc.mono (K.H.brack _) (by omega) | exact Loc.mono (K.H.pat _) (by omega) | exact Loc.mono (K.H.arg _) (by omega) | exact Loc.mono (K.H.comps _) (by omega) | exact Loc.mono (K.H.expr _) (by omega) | exact Loc.mono (K.H.neg _) (by omega) | exact Loc.mono (K.H.app _) (by omega) | exact Loc.mono (K.H.atom _) (by omega) | exact Loc.mono (K.H.encl _) (by omega) | exact Loc.mono (K.H.cont _) (by omega) | exact Loc.mono (K.H.letE _) (by omega) | exact Loc.mono (K.H.matchE _) (by omega) | exact Loc.mono (K.H.rule _) (by omega) | exact Loc.mono (K.H.decl _) (by omega) | exact Loc.mono (K.H.named _) (by omega) | exact Loc.mono (K.H.unpk _) (by omega) | exact Loc.mono (K.H.oper _ _) (by omega) | (with_reducible refine Loc.next ?_ fun v j hj => ?_))
theorem locb_if (i : Nat) : Loc d e i (ifB l F i) (ifB l' F' (i + d)) := by
  unfold ifB
  try simp only [show ∀ x : Nat, x + d + 1 = x + 1 + d from fun x => by omega]
  repeat' (first | assumption | rw [show ∀ x : Nat, x + d + 1 = x + 1 + d from fun x => by omega] | exact Loc.ok (by omega) (by omega) (fun _ => rfl) | exact Loc.ok (by omega) (by omega) (fun h => by rw [K.A.text _ (by omega)]) | exact Loc.bad (by omega) (by omega) | (with_reducible refine Loc.ite (fun h => K.A.pass h) (by omega) ?_ ?_) | (with_reducible refine Loc.ite (fun h => K.A.kindIff h) (by omega) ?_ ?_) | (with_reducible refine Loc.ite (fun h => K.A.kindNe h) (by omega) ?_ ?_) | (with_reducible refine Loc.ite (fun h => K.A.begA h) (by omega) ?_ ?_) | (with_reducible refine Loc.ite (fun h => K.A.begT h) (by omega) ?_ ?_) | (with_reducible refine Loc.ite (fun h => K.A.postIff h) (by omega) ?_ ?_) | (with_reducible refine Loc.ite (fun h => K.A.contIff h) (by omega) ?_ ?_) | exact Loc.mono (loc_take K.A _ _) (by omega) | exact Loc.mono (loc_need K.A _ _) (by omega) | exact Loc.mono (loc_mpath K.A _) (by omega) | exact Loc.mono (loc_tpath K.A _) (by omega) | exact Loc.mono (loc_vpath K.A _) (by omega) | exact Loc.mono (loc_sig K.A _) (by omega) | exact Loc.mono (loc_namesMore K.A (l.length + 1) (l'.length + 1) _ _ (by omega) (by omega)) (by omega) | exact Loc.mono (loc_postMore K.A (l.length + 2) (l'.length + 2) _ _ (by omega) (by omega)) (by omega) | exact Loc.mono (loc_operMore K (l.length + 1) (l'.length + 1) _ _ _ _ (by omega) (by omega)) (by omega) | exact Loc.mono (loc_appMore K (l.length + 1) (l'.length + 1) _ _ (by omega) (by omega)) (by omega) | exact Loc.mono (loc_declMore K (l.length + 1) (l'.length + 1) _ _ (by omega) (by omega)) (by omega) | exact Loc.mono (loc_sepd K.A _ K.H.post K.hF.post _) (by omega) | exact Loc.mono (loc_sepd K.A _ K.H.typ K.hF.typ _) (by omega) | exact Loc.mono (loc_sepd K.A _ K.H.pat K.hF.pat _) (by omega) | exact Loc.mono (loc_sepd K.A _ K.H.expr K.hF.expr _) (by omega) | exact Loc.mono (loc_sepd K.A _ K.H.rule K.hF.rule _) (by omega) | exact Loc.mono (K.H.typ _) (by omega) | exact Loc.mono (K.H.prod _) (by omega) | exact Loc.mono (K.H.post _) (by omega) | exact Loc.mono (K.H.simp _) (by omega) | exact Loc.mono (K.H.brack _) (by omega) | exact Loc.mono (K.H.pat _) (by omega) | exact Loc.mono (K.H.arg _) (by omega) | exact Loc.mono (K.H.comps _) (by omega) | exact Loc.mono (K.H.expr _) (by omega) | exact Loc.mono (K.H.neg _) (by omega) | exact Loc.mono (K.H.app _) (by omega) | exact Loc.mono (K.H.atom _) (by omega) | exact Loc.mono (K.H.encl _) (by omega) | exact Loc.mono (K.H.cont _) (by omega) | exact Loc.mono (K.H.letE _) (by omega) | exact Loc.mono (K.H.matchE _) (by omega) | exact Loc.mono (K.H.rule _) (by omega) | exact Loc.mono (K.H.decl _) (by omega) | exact Loc.mono (K.H.named _) (by omega) | exact Loc.mono (K.H.unpk _) (by omega) | exact Loc.mono (K.H.oper _ _) (by omega) | (with_reducible refine Loc.next ?_ fun v j hj => ?_))
set_option maxHeartbeats 16000000 in
theorem locb_all  : (∀ i, Loc d e i (typB l F i) (typB l' F' (i + d))) ∧ (∀ i, Loc d e i (prodB l F i) (prodB l' F' (i + d))) ∧ (∀ i, Loc d e i (postB l F i) (postB l' F' (i + d))) ∧ (∀ i, Loc d e i (simpB l F i) (simpB l' F' (i + d))) ∧ (∀ i, Loc d e i (brackB l F i) (brackB l' F' (i + d))) ∧ (∀ i, Loc d e i (patB l F i) (patB l' F' (i + d))) ∧ (∀ i, Loc d e i (argB l num F i) (argB l' num F' (i + d))) ∧ (∀ i, Loc d e i (compsB l F i) (compsB l' F' (i + d))) ∧ (∀ i, Loc d e i (exprB l F i) (exprB l' F' (i + d))) ∧ (∀ i, Loc d e i (negB l F i) (negB l' F' (i + d))) ∧ (∀ i, Loc d e i (appB l F i) (appB l' F' (i + d))) ∧ (∀ i, Loc d e i (atomB l num F i) (atomB l' num F' (i + d))) ∧ (∀ i, Loc d e i (enclB l F i) (enclB l' F' (i + d))) ∧ (∀ i, Loc d e i (contB l F i) (contB l' F' (i + d))) ∧ (∀ i, Loc d e i (letB l F i) (letB l' F' (i + d))) ∧ (∀ i, Loc d e i (matchB l F i) (matchB l' F' (i + d))) ∧ (∀ i, Loc d e i (ruleB l F i) (ruleB l' F' (i + d))) ∧ (∀ i, Loc d e i (declB l F i) (declB l' F' (i + d))) ∧ (∀ i, Loc d e i (namedB l F i) (namedB l' F' (i + d))) ∧ (∀ i, Loc d e i (unpkB l F i) (unpkB l' F' (i + d))) ∧ (∀ q i, Loc d e i (operB l F q i) (operB l' F' q (i + d))) := by
  refine ⟨fun i => ?_, fun i => ?_, fun i => ?_, fun i => ?_, fun i => ?_, fun i => ?_, fun i => ?_, fun i => ?_, fun i => ?_, fun i => ?_, fun i => ?_, fun i => ?_, fun i => ?_, fun i => ?_, fun i => ?_, fun i => ?_, fun i => ?_, fun i => ?_, fun i => ?_, fun i => ?_, fun q i => ?_⟩
  all_goals first | unfold typB | unfold prodB | unfold postB | unfold simpB | unfold brackB | unfold patB | unfold argB | unfold compsB | unfold exprB | unfold negB | unfold appB | unfold atomB | unfold enclB | unfold contB | unfold letB | unfold matchB | unfold ruleB | unfold declB | unfold namedB | unfold unpkB | unfold operB
  all_goals try simp only [show ∀ x : Nat, x + d + 1 = x + 1 + d from fun x => by omega]
  all_goals repeat' (first | exact Loc.mono (locb_fn K _) (by omega) | exact Loc.mono (locb_if K _) (by omega) | assumption | rw [show ∀ x : Nat, x + d + 1 = x + 1 + d from fun x => by omega] | exact Loc.ok (by omega) (by omega) (fun _ => rfl) | exact Loc.ok (by omega) (by omega) (fun h => by rw [K.A.text _ (by omega)]) | exact Loc.bad (by omega) (by omega) | (with_reducible refine Loc.ite (fun h => K.A.pass h) (by omega) ?_ ?_) | (with_reducible refine Loc.ite (fun h => K.A.kindIff h) (by omega) ?_ ?_) | (with_reducible refine Loc.ite (fun h => K.A.kindNe h) (by omega) ?_ ?_) | (with_reducible refine Loc.ite (fun h => K.A.begA h) (by omega) ?_ ?_) | (with_reducible refine Loc.ite (fun h => K.A.begT h) (by omega) ?_ ?_) | (with_reducible refine Loc.ite (fun h => K.A.postIff h) (by omega) ?_ ?_) | (with_reducible refine Loc.ite (fun h => K.A.contIff h) (by omega) ?_ ?_) | exact Loc.mono (loc_take K.A _ _) (by omega) | exact Loc.mono (loc_need K.A _ _) (by omega) | exact Loc.mono (loc_mpath K.A _) (by omega) | exact Loc.mono (loc_tpath K.A _) (by omega) | exact Loc.mono (loc_vpath K.A _) (by omega) | exact Loc.mono (loc_sig K.A _) (by omega) | exact Loc.mono (loc_namesMore K.A (l.length + 1) (l'.length + 1) _ _ (by omega) (by omega)) (by omega) | exact Loc.mono (loc_postMore K.A (l.length + 2) (l'.length + 2) _ _ (by omega) (by omega)) (by omega) | exact Loc.mono (loc_operMore K (l.length + 1) (l'.length + 1) _ _ _ _ (by omega) (by omega)) (by omega) | exact Loc.mono (loc_appMore K (l.length + 1) (l'.length + 1) _ _ (by omega) (by omega)) (by omega) | exact Loc.mono (loc_declMore K (l.length + 1) (l'.length + 1) _ _ (by omega) (by omega)) (by omega) | exact Loc.mono (loc_sepd K.A _ K.H.post K.hF.post _) (by omega) | exact Loc.mono (loc_sepd K.A _ K.H.typ K.hF.typ _) (by omega) | exact Loc.mono (loc_sepd K.A _ K.H.pat K.hF.pat _) (by omega) | exact Loc.mono (loc_sepd K.A _ K.H.expr K.hF.expr _) (by omega) | exact Loc.mono (loc_sepd K.A _ K.H.rule K.hF.rule _) (by omega) | exact Loc.mono (K.H.typ _) (by omega) | exact Loc.mono (K.H.prod _) (by omega) | exact Loc.mono (K.H.post _) (by omega) | exact Loc.mono (K.H.simp _) (by omega) | exact Loc.mono (K.H.brack _) (by omega) | exact Loc.mono (K.H.pat _) (by omega) | exact Loc.mono (K.H.arg _) (by omega) | exact Loc.mono (K.H.comps _) (by omega) | exact Loc.mono (K.H.expr _) (by omega) | exact Loc.mono (K.H.neg _) (by omega) | exact Loc.mono (K.H.app _) (by omega) | exact Loc.mono (K.H.atom _) (by omega) | exact Loc.mono (K.H.encl _) (by omega) | exact Loc.mono (K.H.cont _) (by omega) | exact Loc.mono (K.H.letE _) (by omega) | exact Loc.mono (K.H.matchE _) (by omega) | exact Loc.mono (K.H.rule _) (by omega) | exact Loc.mono (K.H.decl _) (by omega) | exact Loc.mono (K.H.named _) (by omega) | exact Loc.mono (K.H.unpk _) (by omega) | exact Loc.mono (K.H.oper _ _) (by omega) | (with_reducible refine Loc.next ?_ fun v j hj => ?_))
theorem LocAll.deeper : LocAll d e (deeper l num F) (deeper l' num F') := by
  obtain ⟨h0, h1, h2, h3, h4, h5, h6, h7, h8, h9, h10, h11, h12, h13, h14, h15, h16, h17, h18, h19, h20⟩ := locb_all K (num := num)
  exact ⟨h0, h1, h2, h3, h4, h5, h6, h7, h8, h9, h10, h11, h12, h13, h14, h15, h16, h17, h18, h19, h20⟩
end
end Go.Proofs.YtjedahcpkcgpeaaGreatDoor.Pl

/-
  Walks of layer 2: the reference's texts and literals.
-/
namespace Go.Proofs.YtjedahcpkcgpeaaGreatDoor
open Go.RowKit
namespace Pl
end Pl
end Go.Proofs.YtjedahcpkcgpeaaGreatDoor

/-
  The law LexerParts, as a walk: each call returns true, and nothing that lay in memory before it turns.
-/
namespace Go.Proofs.YtjedahcpkcgpeaaGreatDoor
open Go.RowKit
end Go.Proofs.YtjedahcpkcgpeaaGreatDoor

/-
  Walks of layer 2: the reference's names, numbers, comments, blanks and places.
-/
namespace Go.Proofs.YtjedahcpkcgpeaaGreatDoor
open Go.RowKit
namespace Pl
def letters (l : Bytes) : Bool := headIs small l || headIs capital l
end Pl
end Go.Proofs.YtjedahcpkcgpeaaGreatDoor

/-
  Walks of layer 2: the reference's Next.
-/
namespace Go.Proofs.YtjedahcpkcgpeaaGreatDoor
open Go.RowKit
end Go.Proofs.YtjedahcpkcgpeaaGreatDoor

/-
  Walks of layer 2: the reference's Next, the whole.
-/
namespace Go.Proofs.YtjedahcpkcgpeaaGreatDoor
open Go.RowKit
end Go.Proofs.YtjedahcpkcgpeaaGreatDoor

/-
  Walks of layer 2: the reference's Next at every text.
-/
namespace Go.Proofs.YtjedahcpkcgpeaaGreatDoor
open Go.RowKit
namespace Pl
theorem run_letters (l : Bytes) (h : letters l = true) : 1 ≤ run innerB l := by
  unfold letters at h
  rw [Bool.or_eq_true] at h
  rcases h with h | h
  · exact run_headIs _ small _ (fun b hb => small_inner _ hb) h
  · exact run_headIs _ capital _ (fun b hb => capital_inner _ hb) h
end Pl
end Go.Proofs.YtjedahcpkcgpeaaGreatDoor

/-
  Walks of layer 2: the reference's Tokens.
-/
namespace Go.Proofs.YtjedahcpkcgpeaaGreatDoor
open Go.RowKit
end Go.Proofs.YtjedahcpkcgpeaaGreatDoor

/-
  Walks of layer 2: the reference's Same, at equal lists.
-/
namespace Go.Proofs.YtjedahcpkcgpeaaGreatDoor
open Go.RowKit
end Go.Proofs.YtjedahcpkcgpeaaGreatDoor

/-
  Walks of layer 2: a token's end, and many.
-/
namespace Go.Proofs.YtjedahcpkcgpeaaGreatDoor
open Go.RowKit
def tokVal (t : Pl.Tok) : Value := .agg (tkc t.kind (Pl.mk t.text) t.line t.col)
def endB (t : Pl.Tok) : Bool := decide (t.kind = 8) && t.text.isEmpty
theorem tok_block (w : World) (kd : Int) (tx : ByteArray) (li co : Int) : TkAt (w.alloc (.cells #[.int .i64 kd, .string tx, .int .i64 li, .int .i64 co] 45)) w.heap.size (.int .i64 kd) (.string tx) (.int .i64 li) (.int .i64 co) ∧
    Below w.heap.size w (w.alloc (.cells #[.int .i64 kd, .string tx, .int .i64 li, .int .i64 co] 45)) := ⟨tkAt_of (blk_new _ _ _), (Below.refl _ _).alloc (Nat.le_refl _) _⟩
set_option maxRecDepth 100000 in
theorem isEnd_any (t : Pl.Tok) (w : World) :
    Calls Tryz.prog 26 #[tokVal t] w fun e w' => e = .returned (.bool (endB t)) ∧ Below w.heap.size w w' := by
  have HR := Lib.hid (show endB t = (decide (t.kind = 8) && t.text.isEmpty) from rfl)
  unfold tokVal
  generalize endB t = r at HR ⊢
  have ht : (Pl.mk t.text).toList = t.text := Pl.mk_toList _
  generalize t.kind = kd at HR ⊢
  generalize Pl.mk t.text = tx at ht ⊢
  rw [← ht] at HR
  clear ht
  obtain ⟨hk, hb⟩ := tok_block w kd tx t.line t.col
  generalize t.line = li at hk hb ⊢
  generalize t.col = co at hk hb ⊢
  obtain ⟨d0, d1, -, -, -, -, -, -⟩ := hk
  have HB := Lib.hid hb
  clear hb
  unfold tkc
  by_cases h8 : kd = 8
  · have q1 : (kd == 8) = true := beq_iff_eq.2 h8
    by_cases hn : tx.toList = []
    · have hn2 : tx.toList.isEmpty = true := by rw [hn]; rfl
      have HF := Lib.hid (show r = true from by rw [HR.out, decide_eq_true h8, hn2]; rfl)
      clear HR h8
      go_enter Tryz.func26, Tryz.ntmps26
      go_wp2
      go_ret
      exact ⟨by rw [HF.out]; rfl, HB.out⟩
    · have hn2 : tx.toList.isEmpty = false := by simpa using hn
      have HF := Lib.hid (show r = false from by rw [HR.out, hn2, Bool.and_false])
      clear HR h8
      go_enter Tryz.func26, Tryz.ntmps26
      go_wp2
      go_ret
      exact ⟨by rw [HF.out]; rfl, HB.out⟩
  · have q1 : (kd == 8) = false := beq_eq_false_iff_ne.2 h8
    have HF := Lib.hid (show r = false from by rw [HR.out, decide_eq_false h8, Bool.false_and])
    clear HR h8
    go_enter Tryz.func26, Tryz.ntmps26
    go_wp2
    go_ret
    exact ⟨by rw [HF.out]; rfl, HB.out⟩
end Go.Proofs.YtjedahcpkcgpeaaGreatDoor

/-
  Walks of layer 2: many.
-/
namespace Go.Proofs.YtjedahcpkcgpeaaGreatDoor
open Go.RowKit
theorem TokSlice.form {w : World} {v : Value} {ts : List Pl.Tok} (h : TokSlice w v ts) : ∃ a c, v = .slice a ts.length c ∧ ts.length ≤ maxLen := by
  rcases h with ⟨h0, a, c, rfl⟩ | ⟨b, off, c, rfl, h1, h2, h3, h4, h5⟩
  · exact ⟨a, c, by rw [h0]; rfl, by rw [h0]; exact Nat.zero_le _⟩
  · exact ⟨_, c, rfl, Nat.le_trans h2 h3⟩
end Go.Proofs.YtjedahcpkcgpeaaGreatDoor

/-
  Plain mathematics of layer 2: right tokens. No program.
-/
namespace Go.Proofs.YtjedahcpkcgpeaaGreatDoor.Pl
open Go
def cls7 (k : Int) (l : Bytes) : Bool :=
  if k = 1 then isLower l else if k = 2 then isUpper l else if k = 3 then isVar l else if k = 4 then decide ((number l).2 = 0) else if k = 6 then isKey l else if k = 7 then isSym l else false
def okT (k : Int) (l : Bytes) : Bool := decide ((tok l).err = 0) && decide ((tok l).len = l.length) && decide ((tok l).kind = k)
theorem key_head : ∀ l, isKey l = true → headIs small l = true ∧ isWord l = true := by
  intro l h
  have hm : l ∈ keys := by simpa [isKey] using h
  have : keys.all (fun l => headIs small l && isWord l) = true := by decide
  have := List.all_eq_true.1 this l hm
  simpa using this
theorem sym_head : ∀ l, isSym l = true → l ≠ [] ∧ headIs small l = false ∧ headIs capital l = false ∧ headIs digit l = false ∧ headIs (fun c => decide (c = 39)) l = false ∧ headIs (fun c => decide (c = 34)) l = false ∧ symLen l = l.length := by
  intro l h
  have hm : l ∈ sym2 ++ sym1 := by simpa [isSym] using h
  have : (sym2 ++ sym1).all (fun l => !l.isEmpty && !headIs small l && !headIs capital l && !headIs digit l && !headIs (fun c => decide (c = 39)) l && !headIs (fun c => decide (c = 34)) l && decide (symLen l = l.length)) = true := by decide
  have := List.all_eq_true.1 this l hm
  simp only [Bool.and_eq_true, Bool.not_eq_true', decide_eq_true_eq, List.isEmpty_eq_false_iff] at this
  obtain ⟨⟨⟨⟨⟨⟨h1, h2⟩, h3⟩, h4⟩, h5⟩, h6⟩, h7⟩ := this
  exact ⟨h1, h2, h3, h4, h5, h6, h7⟩
theorem run_full (p : UInt8 → Bool) (l : Bytes) : run p l = l.length ↔ l.all p = true := by
  induction l with
  | nil => simp [run]
  | cons b r ih =>
    rw [run_cons, List.all_cons]
    cases hp : p b
    · simp
    · simp [ih]
theorem number_zero (l : Bytes) (h : (number l).2 = 0) : l ≠ [] ∧ digits l = true := by
  unfold number at h
  split at h
  · exact absurd h (by decide)
  · next hz =>
    split at h
    · next hd => exact ⟨by rintro rfl; exact hz rfl, hd⟩
    · exact absurd h (by decide)
theorem okT_letters (k : Int) (l : Bytes) (h : letters l = true) : okT k l = (isWord l && decide ((if isKey l then 6 else if headIs capital l then 2 else 1 : Int) = k)) := by
  have h1 := run_letters l h
  have hle := run_le innerB l
  have hf := run_full innerB l
  have ht : tok l = nameTok l := by unfold tok; rw [if_pos (by unfold letters at h; exact h)]
  unfold okT
  rw [ht]
  unfold nameTok isWord innerL
  by_cases h24 : 24 < run innerB l
  · rw [if_pos h24, decide_eq_false (show ¬ l.length ≤ 24 by omega)]
    simp [bad]
  · rw [if_neg h24]
    by_cases hall : l.all innerB = true
    · have hr := hf.2 hall
      rw [hall, hr, List.take_length, decide_eq_true (show 1 ≤ l.length by omega), decide_eq_true (show l.length ≤ 24 by omega)]
      rw [Bool.eq_iff_iff]
      simp [good]
      exact decide_eq_true_iff
    · have hr : run innerB l ≠ l.length := fun hx => hall (hf.1 hx)
      rw [Bool.not_eq_true] at hall
      rw [hall]
      simp [good, hr]
theorem okT_var (k : Int) (b : UInt8) (r : Bytes) (h : letters (b :: r) = false) (hb : b = 39) : okT k (b :: r) = (isVar (b :: r) && decide ((3 : Int) = k)) := by
  have ht : tok (b :: r) = varTok (b :: r) := by
    unfold tok
    rw [if_neg (by unfold letters at h; simp [h]), if_pos (by rw [hb]; rfl)]
  unfold okT
  rw [ht]
  rw [show isVar (b :: r) = (decide (b = 39) && decide ((b :: r).length ≤ 24) && word1 1 r) from rfl]
  unfold varTok
  have hf := run_full innerB r
  have hle := run_le innerB r
  rw [show (b :: r).drop 1 = r from rfl, decide_eq_true hb, List.length_cons]
  cases r with
  | nil => simp [headIs, word1, bad]
  | cons c q =>
    have hw : word1 1 (c :: q) = (small c.toNat && (c :: q).all innerB) := by
      rw [Bool.eq_iff_iff]
      simp only [word1, innerL, Bool.and_eq_true, decide_eq_true_eq, cls_small, List.all_cons]
      constructor
      · rintro ⟨h1, h2⟩; exact ⟨h1, small_inner _ h1, h2⟩
      · rintro ⟨h1, _, h2⟩; exact ⟨h1, h2⟩
    rw [hw, show headIs small (c :: q) = small c.toNat from rfl]
    cases hs : small (c.toNat : Int)
    · simp [bad]
    · rw [if_pos rfl]
      by_cases h24 : 24 < run innerB (c :: q) + 1
      · rw [if_pos h24, decide_eq_false (show ¬ (c :: q).length + 1 ≤ 24 by omega)]
        simp [bad]
      · rw [if_neg h24]
        by_cases hall : (c :: q).all innerB = true
        · have hr := hf.2 hall
          rw [hall, hr, decide_eq_true (show (c :: q).length + 1 ≤ 24 by omega)]
          simp [good]
        · have hr : run innerB (c :: q) ≠ (c :: q).length := fun hx => hall (hf.1 hx)
          rw [Bool.not_eq_true] at hall
          rw [hall]
          have : ¬ run innerB (c :: q) = q.length + 1 := by simpa using hr
          simp [good, this]
theorem okT_num (k : Int) (l : Bytes) (h : letters l = false) (h39 : headIs (fun c => decide (c = 39)) l = false) (hd : headIs digit l = true) : okT k l = (decide ((number l).2 = 0) && decide ((4 : Int) = k)) := by
  have ht : tok l = numTok l := by
    unfold tok
    rw [if_neg (by unfold letters at h; simp [h]), if_neg (by simp [h39]), if_pos hd]
  unfold okT
  rw [ht]
  unfold numTok
  have hf := run_full digitB l
  by_cases hall : l.all digitB = true
  · have hr := hf.2 hall
    rw [hr, List.take_length]
    by_cases hz : (number l).2 = 0
    · rw [if_pos hz, Bool.eq_iff_iff]; simp [good, hz]; exact decide_eq_true_iff
    · rw [if_neg hz]; simp [bad, hz]
  · have hr : run digitB l ≠ l.length := fun hx => hall (hf.1 hx)
    have hn : (number l).2 ≠ 0 := fun hx => hall (number_zero l hx).2
    rw [decide_eq_false hn]
    split
    · simp [good, hr]
    · next hz => simp [bad, hz]
theorem okT_sym (k : Int) (l : Bytes) (hne : l ≠ []) (h : letters l = false) (h39 : headIs (fun c => decide (c = 39)) l = false) (hd : headIs digit l = false) (h34 : headIs (fun c => decide (c = 34)) l = false) : okT k l = (isSym l && decide ((7 : Int) = k)) := by
  have ht : tok l = symTok l := by
    unfold tok
    rw [if_neg (by unfold letters at h; simp [h]), if_neg (by simp [h39]), if_neg (by simp [hd]), if_neg (by simp [h34])]
  unfold okT
  rw [ht]
  unfold symTok
  have hpos : 1 ≤ l.length := by cases l with
    | nil => exact absurd rfl hne
    | cons b r => simp
  cases hs : isSym l
  · by_cases h0 : symLen l = 0
    · rw [if_pos h0]; simp [bad]
    · rw [if_neg h0]
      have : symLen l ≠ l.length := by
        intro hx
        unfold symLen at hx h0
        split at hx
        · omega
        · split at hx
          · next h2 =>
            rw [hx, List.take_length] at h2
            unfold isSym at hs; rw [h2] at hs; cases hs
          · split at hx
            · next h1 =>
              rw [hx, List.take_length] at h1
              unfold isSym at hs; rw [h1, Bool.or_true] at hs; cases hs
            · omega
      simp [good, this]
  · have h7 := (sym_head l hs).2.2.2.2.2.2
    rw [if_neg (by omega)]
    simp [good, h7]
theorem okT_cls (k : Int) (l : Bytes) (hne : l ≠ []) (h34 : headIs (fun c => decide (c = 34)) l = false) : okT k l = cls7 k l := by
  obtain ⟨b, r, rfl⟩ : ∃ b r, l = b :: r := by cases l with
    | nil => exact absurd rfl hne
    | cons b r => exact ⟨b, r, rfl⟩
  have hsc : small (b.toNat : Int) = true → capital (b.toNat : Int) = false := by
    intro h1
    unfold small at h1; unfold capital
    simp only [Bool.and_eq_true, decide_eq_true_eq] at h1
    simp only [Bool.and_eq_false_iff, decide_eq_false_iff_not]; omega
  have hnum : (number (b :: r)).2 = 0 → digit (b.toNat : Int) = true := fun h => by
    have := (number_zero _ h).2
    unfold digits at this
    rw [List.all_cons, Bool.and_eq_true] at this
    exact this.1
  have hkey := key_head (b :: r)
  have hsym := sym_head (b :: r)
  have hvar : isVar (b :: r) = true → (b.toNat : Int) = 39 := fun h => by
    rw [show isVar (b :: r) = (decide (b = 39) && decide ((b :: r).length ≤ 24) && word1 1 r) from rfl] at h
    simp only [Bool.and_eq_true, decide_eq_true_eq] at h
    rw [h.1.1]; rfl
  have hlow : isLower (b :: r) = (isWord (b :: r) && small (b.toNat : Int) && !isKey (b :: r)) := rfl
  have hupp : isUpper (b :: r) = (isWord (b :: r) && capital (b.toNat : Int)) := rfl
  have hlet : letters (b :: r) = (small (b.toNat : Int) || capital (b.toNat : Int)) := rfl
  have hdig : headIs digit (b :: r) = digit (b.toNat : Int) := rfl
  have hq : headIs (fun c => decide (c = 39)) (b :: r) = decide ((b.toNat : Int) = 39) := rfl
  have hhs : headIs small (b :: r) = small (b.toNat : Int) := rfl
  have hhc : headIs capital (b :: r) = capital (b.toNat : Int) := rfl
  have hld : ∀ c : Int, digit c = true → small c = false ∧ capital c = false ∧ c ≠ 39 := by
    intro c h1
    unfold digit at h1; unfold small capital
    simp only [Bool.and_eq_true, decide_eq_true_eq] at h1
    simp only [Bool.and_eq_false_iff, decide_eq_false_iff_not]; omega
  have hlq : small 39 = false ∧ capital 39 = false ∧ digit 39 = false := by decide
  unfold cls7
  cases hl : letters (b :: r)
  · rw [hlet, Bool.or_eq_false_iff] at hl
    obtain ⟨l1, l2⟩ := hl
    have k1 : isLower (b :: r) = false := by rw [hlow, l1, Bool.and_false, Bool.false_and]
    have k2 : isUpper (b :: r) = false := by rw [hupp, l2, Bool.and_false]
    have k6 : isKey (b :: r) = false := by
      rw [Bool.eq_false_iff]; intro h; have := (hkey h).1; rw [hhs, l1] at this; cases this
    have hlf : letters (b :: r) = false := by rw [hlet, l1, l2]; rfl
    rw [k1, k2, k6]
    by_cases h39 : (b.toNat : Int) = 39
    · have hb : b = 39 := (u8_eq _ _).2 h39
      have k4 : ¬ (number (b :: r)).2 = 0 := fun h => by have := hnum h; rw [h39, hlq.2.2] at this; cases this
      have k7 : isSym (b :: r) = false := by
        rw [Bool.eq_false_iff]; intro h; have := (hsym h).2.2.2.2.1; rw [hq, decide_eq_true h39] at this; cases this
      rw [okT_var k b r hlf hb, k7, decide_eq_false k4]
      by_cases hk : k = 3
      · subst hk; simp
      · rw [decide_eq_false (show ¬ (3 : Int) = k from fun h => hk h.symm), if_neg hk]; simp
    · have k3 : isVar (b :: r) = false := by rw [Bool.eq_false_iff]; exact fun h => h39 (hvar h)
      rw [k3]
      cases hd : digit (b.toNat : Int)
      · have k4 : ¬ (number (b :: r)).2 = 0 := fun h => by rw [hnum h] at hd; cases hd
        rw [okT_sym k _ hne hlf (by rw [hq]; exact decide_eq_false h39) (hdig.trans hd) h34, decide_eq_false k4]
        by_cases hk : k = 7
        · subst hk; simp
        · rw [decide_eq_false (show ¬ (7 : Int) = k from fun h => hk h.symm), if_neg hk]; simp
      · have k7 : isSym (b :: r) = false := by
          rw [Bool.eq_false_iff]; intro h; have := (hsym h).2.2.2.1; rw [hdig, hd] at this; cases this
        rw [okT_num k _ hlf (by rw [hq]; exact decide_eq_false h39) (hdig.trans hd), k7]
        by_cases hk : k = 4
        · subst hk; simp
        · rw [decide_eq_false (show ¬ (4 : Int) = k from fun h => hk h.symm), if_neg hk]; simp
  · rw [okT_letters k _ hl]
    rw [hlet, Bool.or_eq_true] at hl
    have h39 : ¬ (b.toNat : Int) = 39 := by
      intro h; rw [h, hlq.1, hlq.2.1] at hl; rcases hl with h | h <;> cases h
    have hd : digit (b.toNat : Int) = false := by
      rw [Bool.eq_false_iff]; intro h; obtain ⟨h1, h2, _⟩ := hld _ h; rw [h1, h2] at hl; rcases hl with h | h <;> cases h
    have k3 : isVar (b :: r) = false := by rw [Bool.eq_false_iff]; exact fun h => h39 (hvar h)
    have k4 : ¬ (number (b :: r)).2 = 0 := fun h => by rw [hnum h] at hd; cases hd
    have k7 : isSym (b :: r) = false := by
      rw [Bool.eq_false_iff]; intro h
      obtain ⟨_, h1, h2, _⟩ := hsym h
      rw [hhs] at h1; rw [hhc] at h2; rw [h1, h2] at hl; rcases hl with h | h <;> cases h
    rw [k3, k7, decide_eq_false k4, hhc, hlow, hupp]
    cases hk : isKey (b :: r)
    · cases hc : capital (b.toNat : Int)
      · have hs : small (b.toNat : Int) = true := by
          cases hl with
          | inl h => exact h
          | inr h => rw [hc] at h; cases h
        rw [hs]
        by_cases h1 : k = 1
        · subst h1; simp
        · simp [h1, show ¬ (1 : Int) = k from fun h => h1 h.symm]
      · by_cases h2 : k = 2
        · subst h2; simp
        · have hs : small (b.toNat : Int) = false := by
            rw [Bool.eq_false_iff]; intro h; rw [hsc h] at hc; cases hc
          simp [h2, hs, show ¬ (2 : Int) = k from fun h => h2 h.symm]
    · obtain ⟨hs, hw⟩ := hkey hk
      rw [hhs] at hs
      have hc := hsc hs
      rw [hw, hc]
      by_cases h6 : k = 6
      · subst h6; simp
      · simp [h6, show ¬ (6 : Int) = k from fun h => h6 h.symm]
end Go.Proofs.YtjedahcpkcgpeaaGreatDoor.Pl
