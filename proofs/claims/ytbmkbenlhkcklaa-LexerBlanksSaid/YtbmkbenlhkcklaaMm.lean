/-
  Plain mathematics of layer 2: joined tokens are found again. No program.
-/
import Derived.Test.YtbmkbenlhkcklaaMi
namespace Go.Proofs.Ytbmkbenlhkcklaa
open Go Go.RowKit
namespace Pl
/-- what may stand behind a token that was joined -/
def Sep (q : Bytes) : Prop := q = [] ∨ ∃ r, q = 32 :: r
theorem run_sep (p : UInt8 → Bool) (hp : p 32 = false) (l q : Bytes) (hq : Sep q) (h : l.all p = true) : run p (l ++ q) = l.length := by
  induction l with
  | nil =>
    rcases hq with rfl | ⟨r, rfl⟩
    · rfl
    · rw [List.nil_append, run_cons, hp]; rfl
  | cons b r ih =>
    rw [List.all_cons, Bool.and_eq_true] at h
    rw [List.cons_append, run_cons, h.1, if_pos rfl, ih h.2, List.length_cons]
theorem take_len (l q : Bytes) : (l ++ q).take l.length = l := by simp
theorem sep_sym : ∀ l, isSym l = true → ∀ q, Sep q → opens (l ++ q) = false ∧ symLen (l ++ q) = l.length := by
  intro l h q hq
  have hm : l ∈ sym2 ++ sym1 := by simpa [isSym] using h
  simp only [sym2, sym1, List.cons_append, List.nil_append, List.mem_cons, List.mem_nil_iff, or_false] at hm
  rcases hq with rfl | ⟨r, rfl⟩
  · rcases hm with rfl | rfl | rfl | rfl | rfl | rfl | rfl | rfl | rfl | rfl | rfl | rfl | rfl | rfl | rfl | rfl | rfl | rfl | rfl <;> exact ⟨rfl, rfl⟩
  · rcases hm with rfl | rfl | rfl | rfl | rfl | rfl | rfl | rfl | rfl | rfl | rfl | rfl | rfl | rfl | rfl | rfl | rfl | rfl | rfl <;> exact ⟨rfl, rfl⟩
/-- a token that is right is found at the beginning of what it is written as, whatever is joined behind it -/
theorem tok_sep (k : Int) (l q : Bytes) (hq : Sep q) (hne : l ≠ []) (h34 : headIs (fun c => decide (c = 34)) l = false) (h : okT k l = true) : tok (l ++ q) = good k l l.length := by
  obtain ⟨b, r, rfl⟩ : ∃ b r, l = b :: r := by cases l with
    | nil => exact absurd rfl hne
    | cons b r => exact ⟨b, r, rfl⟩
  have hhd : ∀ p : Int → Bool, headIs p (b :: r ++ q) = headIs p (b :: r) := fun p => rfl
  unfold tok
  rw [hhd, hhd, hhd, hhd, hhd, h34]
  cases hl : letters (b :: r)
  · have hlf : (headIs small (b :: r) || headIs capital (b :: r)) = false := hl
    rw [hlf, if_neg (by simp)]
    cases h39 : headIs (fun c => decide (c = 39)) (b :: r)
    · rw [if_neg (by simp)]
      cases hd : headIs digit (b :: r)
      · rw [if_neg (by simp), if_neg (by simp)]
        rw [okT_sym k _ hne hl h39 hd h34, Bool.and_eq_true, decide_eq_true_eq] at h
        obtain ⟨hs, rfl⟩ := h
        obtain ⟨_, h7⟩ := sep_sym _ hs q hq
        unfold symTok
        rw [h7, if_neg (by simp), take_len]
      · rw [if_pos rfl]
        rw [okT_num k _ hl h39 hd, Bool.and_eq_true, decide_eq_true_eq, decide_eq_true_eq] at h
        obtain ⟨hn, rfl⟩ := h
        have hr := run_sep digitB (by decide) (b :: r) q hq (number_zero _ hn).2
        unfold numTok
        rw [hr, take_len, if_pos hn]
    · rw [if_pos rfl]
      have hb : b = 39 := (u8_eq _ _).2 (of_decide_eq_true h39)
      rw [okT_var k b r hl hb, Bool.and_eq_true, decide_eq_true_eq] at h
      obtain ⟨hv, rfl⟩ := h
      rw [show isVar (b :: r) = (decide (b = 39) && decide ((b :: r).length ≤ 24) && word1 1 r) from rfl] at hv
      simp only [Bool.and_eq_true, decide_eq_true_eq] at hv
      obtain ⟨⟨_, h24⟩, hw⟩ := hv
      cases r with
      | nil => cases hw
      | cons c z =>
        simp only [word1, innerL, Bool.and_eq_true, decide_eq_true_eq, cls_small] at hw
        have hall : (c :: z).all innerB = true := by
          rw [List.all_cons, Bool.and_eq_true]; exact ⟨small_inner _ hw.1, hw.2⟩
        have hr := run_sep innerB (by decide) (c :: z) q hq hall
        have hdr : (b :: c :: z ++ q).drop 1 = c :: z ++ q := rfl
        unfold varTok
        rw [hdr, hr, show headIs small (c :: z ++ q) = small c.toNat from rfl, hw.1, if_pos rfl, if_neg (by simpa using h24)]
        have := take_len (b :: c :: z) q
        rw [show (b :: c :: z).length = (c :: z).length + 1 from rfl] at this ⊢
        rw [this]
  · have hlt : (headIs small (b :: r) || headIs capital (b :: r)) = true := hl
    rw [hlt, if_pos rfl]
    rw [okT_letters k _ hl, Bool.and_eq_true, decide_eq_true_eq] at h
    obtain ⟨hw, hk⟩ := h
    unfold isWord at hw
    simp only [Bool.and_eq_true, decide_eq_true_eq] at hw
    obtain ⟨⟨_, h24⟩, hi⟩ := hw
    have hr := run_sep innerB (by decide) (b :: r) q hq hi
    unfold nameTok
    rw [hr, take_len, if_neg (by omega), hhd, hk]
end Pl
theorem okT_head (t : Pl.Tok) (h5 : t.kind ≠ 5) (h : refB t = true) : t.text ≠ [] ∧ Pl.headIs (fun c => decide (c = 34)) t.text = false ∧ Pl.okT t.kind t.text = true ∧ t.kind ≠ 8 := by
  unfold refB at h
  rw [if_neg h5] at h
  split at h
  · cases h
  · next hx =>
    simp only [Bool.or_eq_true, decide_eq_true_eq, not_or, List.isEmpty_iff, Bool.not_eq_true] at hx
    exact ⟨hx.1.1, hx.2, h, hx.1.2⟩
theorem tok_wr (t : Pl.Tok) (q : Pl.Bytes) (hq : Pl.Sep q) (h : refB t = true) : Pl.tok (wrT t ++ q) = Pl.good t.kind t.text (wrT t).length := by
  unfold wrT
  by_cases h5 : t.kind = 5
  · rw [if_pos h5, h5]
    unfold refB at h
    rw [if_pos h5, Bool.and_eq_true] at h
    have := Pl.txt_body t.text q [] 1 h.2
    rw [List.nil_append] at this
    show Pl.txt (Pl.body t.text ++ [34] ++ q) false [] 1 = _
    rw [List.append_assoc, List.singleton_append, this, Pl.lit_len]; congr 1; omega
  · rw [if_neg h5]
    obtain ⟨h1, h2, h3, _⟩ := okT_head t h5 h
    exact Pl.tok_sep _ _ q hq h1 h2 h3
end Go.Proofs.Ytbmkbenlhkcklaa
