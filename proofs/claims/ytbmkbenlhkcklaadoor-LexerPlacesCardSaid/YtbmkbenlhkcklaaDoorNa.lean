/-
  Plain mathematics of layer 2: the lines of a source, and the places in them. No program.
-/
import Derived.Test.YtbmkbenlhkcklaaDoorLs
import Derived.Lib.SplitLaws
import Derived.Lib.IndexBytes
namespace Go.Proofs.YtbmkbenlhkcklaaDoor
open Go Go.RowKit
namespace Pl
/-- a text, cut at its newlines -/
def lines : Bytes → List Bytes
  | [] => [[]]
  | b :: r => if b = 10 then [] :: lines r else match lines r with
    | [] => [[b]]
    | p :: ps => (b :: p) :: ps
theorem lines_ne (l : Bytes) : lines l ≠ [] := by
  cases l with
  | nil => simp [lines]
  | cons b r =>
    unfold lines
    split
    · simp
    · split <;> simp
theorem lines_none : ∀ l : Bytes, 10 ∉ l → lines l = [l] := by
  intro l
  induction l with
  | nil => intro _; rfl
  | cons b r ih =>
    intro h
    simp only [List.mem_cons, not_or] at h
    unfold lines
    rw [if_neg (fun e => h.1 e.symm), ih h.2]
theorem lines_hit : ∀ (a r : Bytes), 10 ∉ a → lines (a ++ 10 :: r) = a :: lines r := by
  intro a
  induction a with
  | nil => intro r _; simp [lines]
  | cons b a ih =>
    intro r h
    simp only [List.mem_cons, not_or] at h
    rw [List.cons_append, lines, if_neg (fun e => h.1 e.symm), ih r h.2]
theorem lines_run : ∀ (a r p : Bytes) (ps : List Bytes), 10 ∉ a → lines r = p :: ps → lines (a ++ r) = (a ++ p) :: ps := by
  intro a
  induction a with
  | nil => intro r p ps _ h; exact h
  | cons b a ih =>
    intro r p ps h hr
    simp only [List.mem_cons, not_or] at h
    rw [List.cons_append, lines, if_neg (fun e => h.1 e.symm), ih r p ps h.2 hr]
    rfl
theorem lines_length : ∀ l : Bytes, (lines l).length = l.count 10 + 1 := by
  intro l
  induction l with
  | nil => rfl
  | cons b r ih =>
    unfold lines
    split
    · next h => subst h; simp [ih]
    · next h =>
      have hb : (b == 10) = false := by simpa using h
      rw [List.count_cons, hb]
      have := ih
      split
      · next h0 => exact absurd h0 (lines_ne r)
      · next p ps h0 => rw [h0] at ih; simpa using ih
theorem linesK_eq : ∀ (k : Nat) (l : Bytes), l.count 10 = k → Lib.splitK [10] 0 k l = lines l := by
  intro k
  induction k with
  | zero =>
    intro l h
    rw [lines_none l (List.count_eq_zero.1 h)]; rfl
  | succ k ih =>
    intro l h
    have hm : 10 ∈ l := List.count_pos_iff.1 (by omega)
    unfold Lib.splitK
    rw [Lib.index_one]
    have hge := Lib.indexByte_ge l 10
    by_cases hn : Lib.indexByte l 10 = -1
    · have := Lib.indexByte_none hn
      obtain ⟨i, hi⟩ := List.getElem?_of_mem hm
      exact absurd hi (this i)
    · obtain ⟨o, ho⟩ : ∃ o : Nat, Lib.indexByte l 10 = o := ⟨(Lib.indexByte l 10).toNat, by omega⟩
      obtain ⟨h1, h2⟩ := Lib.indexByte_some ho
      have hlt : o < l.length := (List.getElem?_eq_some_iff.1 h1).1
      have hge : l[o] = 10 := (List.getElem?_eq_some_iff.1 h1).2
      have hdec : l = l.take o ++ 10 :: l.drop (o + 1) := by
        rw [← hge, ← List.drop_eq_getElem_cons hlt, List.take_append_drop]
      have hno : 10 ∉ l.take o := by
        intro hm2
        obtain ⟨j, hj⟩ := List.getElem?_of_mem hm2
        have hjo : j < o := by have := (List.getElem?_eq_some_iff.1 hj).1; simp at this; omega
        rw [List.getElem?_take_of_lt hjo] at hj
        exact h2 j hjo hj
      have hc : (l.drop (o + 1)).count 10 = k := by
        have : l.count 10 = (l.take o ++ 10 :: l.drop (o + 1)).count 10 := by rw [← hdec]
        rw [List.count_append, List.count_cons_self, List.count_eq_zero.2 hno] at this
        omega
      rw [ho]
      rw [if_neg (by simp)]
      simp only [Int.toNat_natCast, Nat.add_zero, List.length_cons, List.length_nil, Nat.zero_add]
      rw [ih _ hc]
      conv => rhs; rw [hdec]
      rw [lines_hit _ _ hno]
/-- the same, as strings -/
def linesS (s : ByteArray) : List ByteArray := (lines s.toList).map mk
theorem lines_inj (l : List ByteArray) (m : List Bytes) (h : l.map (·.toList) = m) : l = m.map mk := by
  subst h
  rw [List.map_map]
  have : (mk ∘ fun x : ByteArray => x.toList) = id := by funext x; exact mk_of x
  rw [this, List.map_id]
theorem linesB_eq (s : ByteArray) : Lib.splitB ⟨#[10]⟩ 0 (Lib.countB s ⟨#[10]⟩) s = linesS s := by
  refine lines_inj _ _ ?_
  have h := Lib.splitB_data ⟨#[10]⟩ 0 (Lib.countB s ⟨#[10]⟩) s
  have e : (fun x : ByteArray => x.toList) = fun x : ByteArray => x.data.toList := by funext x; exact toList_eq x
  rw [e, h, show (⟨#[10]⟩ : ByteArray).data.toList = [10] from rfl, toList_eq]
  exact linesK_eq _ _ (Lib.count_one 10 s.data.toList).symm
theorem linesS_length (s : ByteArray) : (linesS s).length = s.toList.count 10 + 1 := by
  unfold linesS; rw [List.length_map, lines_length]
theorem linesC_eq (s : ByteArray) : Lib.countB s ⟨#[10]⟩ = s.toList.count 10 := by
  rw [toList_eq]; exact Lib.count_one 10 s.data.toList
theorem lines_le : ∀ (l p : Bytes), p ∈ lines l → p.length ≤ l.length := by
  intro l
  induction l with
  | nil => intro p hp; simp [lines] at hp; subst hp; simp
  | cons b r ih =>
    intro p hp
    unfold lines at hp
    split at hp
    · simp only [List.mem_cons] at hp
      rcases hp with rfl | hp
      · simp
      · have := ih p hp; simp; omega
    · split at hp
      · simp only [List.mem_cons, List.mem_nil_iff, or_false] at hp; subst hp; simp
      · next q qs hq =>
        simp only [List.mem_cons] at hp
        rcases hp with rfl | hp
        · have := ih q (by rw [hq]; simp); simp; omega
        · have := ih p (by rw [hq]; simp [hp]); simp; omega

/-- a byte's place: its line, and what is left of it there -/
def On (l : Bytes) (i : Nat) (k c : Nat) (x : Bytes) : Prop :=
  lineAt l i = (k : Int) + 1 ∧ colAt l i = (c : Int) + 1 ∧ (lines l)[k]? = some x ∧ c ≤ x.length ∧ lines (l.drop i) = x.drop c :: (lines l).drop (k + 1)
theorem place_next (l : Bytes) (i : Nat) (h : i < l.length) : place (l.take (i + 1)) = plStep (place (l.take i)) l[i] := by
  rw [← place_snoc, List.take_append_getElem h]
theorem on_any (l : Bytes) : ∀ i, i ≤ l.length → ∃ k c x, On l i k c x := by
  intro i
  induction i with
  | zero =>
    intro _
    cases hl : lines l with
    | nil => exact absurd hl (lines_ne l)
    | cons x tl => exact ⟨0, 0, x, rfl, rfl, by rw [hl]; rfl, Nat.zero_le _, by rw [hl]; simp [hl]⟩
  | succ i ih =>
    intro h
    obtain ⟨k, c, x, h1, h2, h3, h4, h5⟩ := ih (by omega)
    have hp := place_next l i (by omega)
    have hd : l.drop i = l[i] :: l.drop (i + 1) := List.drop_eq_getElem_cons (by omega)
    rw [hd] at h5
    unfold lineAt at h1
    unfold colAt at h2
    by_cases hb : l[i] = 10
    · rw [hb, lines, if_pos rfl] at h5
      obtain ⟨h6, h7⟩ := List.cons.inj h5
      cases hn : lines (l.drop (i + 1)) with
      | nil => exact absurd hn (lines_ne _)
      | cons y ys =>
        rw [hn] at h7
        have hk : (lines l)[k + 1]? = some y := by
          have := congrArg (fun z => z[0]?) h7
          simpa using this.symm
        refine ⟨k + 1, 0, y, ?_, ?_, hk, Nat.zero_le _, ?_⟩
        · unfold lineAt; rw [hp, hb]; unfold plStep; rw [if_pos rfl, h1]; simp
        · unfold colAt; rw [hp, hb]; unfold plStep; rw [if_pos rfl]; rfl
        · rw [hn, List.drop_zero]
          congr 1
          have := congrArg (List.drop 1) h7
          simpa [List.drop_drop] using this
    · rw [lines, if_neg hb] at h5
      cases hn : lines (l.drop (i + 1)) with
      | nil => exact absurd hn (lines_ne _)
      | cons y ys =>
        rw [hn] at h5
        obtain ⟨h6, h7⟩ := List.cons.inj h5
        have hlen : c < x.length := by
          rcases Nat.lt_or_ge c x.length with hc | hc
          · exact hc
          · rw [List.drop_eq_nil_of_le hc] at h6; cases h6
        refine ⟨k, c + 1, x, ?_, ?_, h3, hlen, ?_⟩
        · unfold lineAt; rw [hp]; unfold plStep; rw [if_neg hb]; exact h1
        · unfold colAt; rw [hp]; unfold plStep; rw [if_neg hb, h2]; simp
        · rw [hn, h7]
          congr 1
          have := congrArg (List.drop 1) h6
          simpa [List.drop_drop] using this
/-- bytes without a newline, at a place -/
theorem on_run (l : Bytes) (i k c : Nat) (x u r : Bytes) (h : On l i k c x) (hu : 10 ∉ u) (hd : l.drop i = u ++ r) : u <+: x.drop c := by
  obtain ⟨_, _, _, _, h5⟩ := h
  cases hr : lines r with
  | nil => exact absurd hr (lines_ne r)
  | cons p ps =>
    rw [hd, lines_run u r p ps hu hr] at h5
    rw [← (List.cons.inj h5).1]
    exact List.prefix_append _ _
/-- a later byte has a later place -/
def Rises (a b c d : Int) : Prop := a < c ∨ a = c ∧ b < d
theorem rises_next (l : Bytes) (i : Nat) (h : i < l.length) : Rises (lineAt l i) (colAt l i) (lineAt l (i + 1)) (colAt l (i + 1)) := by
  unfold lineAt colAt
  rw [place_next l i h]
  unfold plStep Rises
  split
  · left; simp; omega
  · right; simp; omega
theorem rises_any (l : Bytes) (i : Nat) : ∀ d, i + d + 1 ≤ l.length → Rises (lineAt l i) (colAt l i) (lineAt l (i + d + 1)) (colAt l (i + d + 1)) := by
  intro d
  induction d with
  | zero => intro h; exact rises_next l i (by omega)
  | succ d ih =>
    intro h
    have h1 := ih (by omega)
    have h2 := rises_next l (i + d + 1) (by omega)
    rw [show i + (d + 1) + 1 = i + d + 1 + 1 from by omega]
    unfold Rises at h1 h2 ⊢
    omega
end Pl
end Go.Proofs.YtbmkbenlhkcklaaDoor
