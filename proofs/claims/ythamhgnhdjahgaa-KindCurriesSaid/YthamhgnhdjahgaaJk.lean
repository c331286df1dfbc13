/-
  Layer 8, plain: the code's parser.
-/
import Derived.Test.YthamhgnhdjahgaaKp
namespace Go.Proofs.Ythamhgnhdjahgaa
open Go
open Pl (K)
set_option linter.unusedSimpArgs false

def cutL (p l : List UInt8) : Option (List UInt8) := if p.isPrefixOf l then some (l.drop p.length) else none
theorem cutL_app (p r : List UInt8) : cutL p (p ++ r) = some r := by
  unfold cutL
  rw [if_pos (by rw [List.isPrefixOf_iff_prefix]; exact ⟨r, rfl⟩), List.drop_left]
theorem cutL_some {p l r : List UInt8} (h : cutL p l = some r) : l = p ++ r := by
  unfold cutL at h
  split at h
  · next h1 =>
    rw [List.isPrefixOf_iff_prefix] at h1
    obtain ⟨q, rfl⟩ := h1
    rw [List.drop_left] at h
    injection h with h
    rw [h]
  · cases h
theorem cutL_none {p l : List UInt8} (h : ¬ ∃ r, l = p ++ r) : cutL p l = none := by
  cases hc : cutL p l with
  | none => rfl
  | some r => exact absurd ⟨r, cutL_some hc⟩ h
def rdFrom (f : List UInt8 → Option (K × List UInt8)) (l : List UInt8) : Option (K × List UInt8) := match cutL [42] l with
  | some r => some (.mk [], r)
  | none => match cutL [40] l with
    | none => none
    | some i => match f i with
      | none => none
      | some p => if p.1.l.length = 0 then none else (match cutL [41] p.2 with
        | none => none
        | some q => some (p.1, q))
def rdTail (f : List UInt8 → Option (K × List UInt8)) (p : K × List UInt8) : Option (K × List UInt8) := match cutL [32, 45, 62, 32] p.2 with
  | none => if p.1.l.length = 0 then some p else none
  | some a => match f a with
    | none => none
    | some q => some (.mk [p.1, q.1], q.2)
def rd : Nat → List UInt8 → Option (K × List UInt8)
  | 0, _ => none
  | d + 1, l => match rdFrom (rd d) l with
    | none => none
    | some p => rdTail (rd d) p
theorem nil_of_len {k : K} (h : k.l.length = 0) : k = .mk [] := by
  obtain ⟨l⟩ := k
  rw [List.eq_nil_of_length_eq_zero (show l.length = 0 from h)]
theorem rdFrom_sound (f : List UInt8 → Option (K × List UInt8)) (d : Nat) (hf : ∀ l k r, f l = some (k, r) → K.ok k = true ∧ K.depth k ≤ d ∧ l = K.text k ++ r) (l : List UInt8) (k : K) (r : List UInt8) (h : rdFrom f l = some (k, r)) :
    K.ok k = true ∧ K.depth k ≤ d + 1 ∧ l = (if k.l.length = 0 then K.text k else 40 :: (K.text k ++ [41])) ++ r ∧ (k = .mk [] ∨ K.depth k ≤ d) := by
  unfold rdFrom at h
  split at h
  · next q hq =>
    injection h with h
    injection h with h1 h2
    subst h1 h2
    exact ⟨by decide +kernel, by rw [K.depth, K.depths]; omega, by rw [cutL_some hq, if_pos (by rfl), K.text_star], .inl rfl⟩
  · split at h
    · cases h
    · next i hi =>
      split at h
      · cases h
      · next p hp =>
        split at h
        · cases h
        · next hl =>
          split at h
          · cases h
          · next q hq =>
            injection h with h
            injection h with h1 h2
            subst h1 h2
            obtain ⟨h1, h2, h3⟩ := hf i p.1 p.2 hp
            refine ⟨h1, by omega, ?_, .inr h2⟩
            rw [if_neg hl, cutL_some hi, h3, cutL_some hq]
            simp [List.append_assoc]
theorem rd_sound (d : Nat) : ∀ l k r, rd d l = some (k, r) → K.ok k = true ∧ K.depth k ≤ d ∧ l = K.text k ++ r := by
  induction d with
  | zero => intro l k r h; cases h
  | succ d ih =>
    intro l k r h
    rw [rd] at h
    split at h
    · cases h
    · next p hp =>
      obtain ⟨h1, h2, h3, h4⟩ := rdFrom_sound (rd d) d ih l p.1 p.2 hp
      unfold rdTail at h
      split at h
      · split at h
        · next hl =>
          injection h with h
          subst h
          exact ⟨h1, h2, by rw [h3, if_pos hl]⟩
        · cases h
      · next a ha =>
        split at h
        · cases h
        · next q hq =>
          injection h with h
          injection h with e1 e2
          subst e1 e2
          obtain ⟨g1, g2, g3⟩ := ih a q.1 q.2 hq
          refine ⟨?_, ?_, ?_⟩
          · rw [K.ok, K.oks, K.oks, K.oks, h1, g1]; rfl
          · rw [K.depth, K.depths, K.depths, K.depths]
            rcases h4 with h4 | h4
            · rw [h4, show K.depth (.mk []) = 1 from by decide +kernel]
              have := K.depth_pos q.1
              omega
            · omega
          · rw [K.text_two, h3, cutL_some ha, g3]
            simp [List.append_assoc]
theorem rd_text (t : K) : K.ok t = true → ∀ (d : Nat), K.depth t ≤ d → ∀ (r : List UInt8), Stops r → rd d (K.text t ++ r) = some (t, r) := by
  induction t using K.ind with
  | h t ih =>
    intro hok d hd r hr
    obtain ⟨d, rfl⟩ : ∃ k, d = k + 1 := ⟨d - 1, by have := K.depth_pos t; omega⟩
    rcases K.ok_cases hok with rfl | ⟨x, y, rfl⟩
    · rw [K.text_star, rd]
      have h1 : rdFrom (rd d) ([42] ++ r) = some (.mk [], r) := by unfold rdFrom; rw [cutL_app]
      rw [h1]
      show rdTail (rd d) (.mk [], r) = _
      unfold rdTail
      rw [cutL_none hr]
      rfl
    · have h2 := K.ok_two hok
      have hdx : K.depth x ≤ d ∧ K.depth y ≤ d := by
        rw [K.depth, K.depths, K.depths, K.depths] at hd; omega
      have hy := ih y (by simp [K.l]) h2.2 d hdx.2 r hr
      have tail : rdTail (rd d) (x, [32, 45, 62, 32] ++ (K.text y ++ r)) = some (.mk [x, y], r) := by
        unfold rdTail
        rw [show (x, [32, 45, 62, 32] ++ (K.text y ++ r)).2 = [32, 45, 62, 32] ++ (K.text y ++ r) from rfl, cutL_app]
        show (match rd d (K.text y ++ r) with
          | none => none
          | some q => some (K.mk [x, q.1], q.2)) = _
        rw [hy]
      rw [K.text_two, rd]
      by_cases hx : x.l.length = 0
      · rw [if_pos hx]
        obtain rfl := nil_of_len hx
        rw [K.text_star]
        have h1 : rdFrom (rd d) ([42] ++ ([32, 45, 62, 32] ++ K.text y) ++ r) = some (.mk [], [32, 45, 62, 32] ++ (K.text y ++ r)) := by
          unfold rdFrom
          rw [show [42] ++ ([32, 45, 62, 32] ++ K.text y) ++ r = [42] ++ ([32, 45, 62, 32] ++ (K.text y ++ r)) from by simp [List.append_assoc], cutL_app]
        rw [h1]
        exact tail
      · rw [if_neg hx]
        have hxx := ih x (by simp [K.l]) h2.1 d hdx.1 (41 :: ([32, 45, 62, 32] ++ (K.text y ++ r))) (stops_par _)
        have h1 : rdFrom (rd d) (40 :: (K.text x ++ [41]) ++ ([32, 45, 62, 32] ++ K.text y) ++ r) = some (x, [32, 45, 62, 32] ++ (K.text y ++ r)) := by
          unfold rdFrom
          rw [show 40 :: (K.text x ++ [41]) ++ ([32, 45, 62, 32] ++ K.text y) ++ r = [40] ++ (K.text x ++ (41 :: ([32, 45, 62, 32] ++ (K.text y ++ r)))) from by simp [List.append_assoc]]
          rw [cutL_none (p := [42]) (fun ⟨s, h⟩ => by injection h with h; exact absurd h (by decide)), cutL_app]
          show (match rd d (K.text x ++ (41 :: ([32, 45, 62, 32] ++ (K.text y ++ r)))) with
            | none => none
            | some p => if p.1.l.length = 0 then none else (match cutL [41] p.2 with
              | none => none
              | some q => some (p.1, q))) = _
          rw [hxx]
          show (if x.l.length = 0 then none else (match cutL [41] (41 :: ([32, 45, 62, 32] ++ (K.text y ++ r))) with
              | none => none
              | some q => some (x, q))) = _
          rw [if_neg hx, show (41 :: ([32, 45, 62, 32] ++ (K.text y ++ r)) : List UInt8) = [41] ++ ([32, 45, 62, 32] ++ (K.text y ++ r)) from rfl, cutL_app]
        rw [h1]
        exact tail
theorem size_text (t : K) (h : K.ok t = true) : K.size t ≤ (K.text t).length := by
  induction t using K.ind with
  | h t ih =>
    rcases K.ok_cases h with rfl | ⟨a, b, rfl⟩
    · rw [K.text_star, K.size, K.sizes]; simp
    · have h2 := K.ok_two h
      have ha := ih a (by simp [K.l]) h2.1
      have hb := ih b (by simp [K.l]) h2.2
      rw [K.text_two, K.size_two, List.length_append, List.length_append]
      have e : ([32, 45, 62, 32] : List UInt8).length = 4 := rfl
      split
      · omega
      · simp only [List.length_cons, List.length_append]; omega
/-- what the code's parser reads is what has this text -/
theorem rd_parse (l : List UInt8) (hl : l.length ≤ 16384) : parseOut l = (match rd 400 l with
    | some p => if p.2.length = 0 then (p.1, (0 : Int)) else (.mk [], 3)
    | none => (.mk [], 3)) := by
  rcases parseOut_cases l with ⟨t, hv, rfl, ho⟩ | ⟨hn, ho⟩
  · have hf := (K.valid_iff t).1 hv
    have h := rd_text t hf.1 400 (by have := hf.2.2; omega) [] stops_nil
    rw [List.append_nil] at h
    rw [h, ho]
    rfl
  · rw [ho]
    cases hr : rd 400 l with
    | none => rfl
    | some p =>
      obtain ⟨k, r⟩ := p
      obtain ⟨h1, h2, h3⟩ := rd_sound 400 l k r hr
      show _ = (if r.length = 0 then (k, (0 : Int)) else (.mk [], 3))
      by_cases hz : r.length = 0
      · exfalso
        rw [List.eq_nil_of_length_eq_zero hz, List.append_nil] at h3
        have := size_text k h1
        refine hn k ((K.valid_iff k).2 ⟨h1, ?_, by omega⟩) h3.symm
        rw [h3] at hl
        omega
      · rw [if_neg hz]
end Go.Proofs.Ythamhgnhdjahgaa
