/-
  Plain mathematics of layer 1: paths.
-/
import Derived.Test.YtmjiocpcenbndaaGreatDoorPl
import Derived.Lib.SplitLaws
import Derived.Lib.IndexBytes
namespace Go.Proofs.YtmjiocpcenbndaaGreatDoor.Pl
open Go

/-- a text, cut at its full stops -/
def split : Bytes → List Bytes
  | [] => [[]]
  | b :: r => if b = 46 then [] :: split r else match split r with
    | [] => [[b]]
    | p :: ps => (b :: p) :: ps
theorem split_ne (l : Bytes) : split l ≠ [] := by
  cases l with
  | nil => simp [split]
  | cons b r =>
    unfold split
    split
    · simp
    · split <;> simp
theorem split_none : ∀ l : Bytes, 46 ∉ l → split l = [l] := by
  intro l
  induction l with
  | nil => intro _; rfl
  | cons b r ih =>
    intro h
    simp only [List.mem_cons, not_or] at h
    unfold split
    rw [if_neg (fun e => h.1 e.symm), ih h.2]
theorem split_hit : ∀ (a r : Bytes), 46 ∉ a → split (a ++ 46 :: r) = a :: split r := by
  intro a
  induction a with
  | nil => intro r _; simp [split]
  | cons b a ih =>
    intro r h
    simp only [List.mem_cons, not_or] at h
    rw [List.cons_append, split, if_neg (fun e => h.1 e.symm), ih r h.2]
theorem split_length : ∀ l : Bytes, (split l).length = l.count 46 + 1 := by
  intro l
  induction l with
  | nil => rfl
  | cons b r ih =>
    unfold split
    split
    · next h => subst h; simp [ih]
    · next h =>
      have hb : (b == 46) = false := by simpa using h
      rw [List.count_cons, hb]
      have := ih
      split
      · next h0 => exact absurd h0 (split_ne r)
      · next p ps h0 => rw [h0] at ih; simpa using ih
theorem splitK_eq : ∀ (k : Nat) (l : Bytes), l.count 46 = k → Lib.splitK [46] 0 k l = split l := by
  intro k
  induction k with
  | zero =>
    intro l h
    rw [split_none l (List.count_eq_zero.1 h)]; rfl
  | succ k ih =>
    intro l h
    have hm : 46 ∈ l := List.count_pos_iff.1 (by omega)
    unfold Lib.splitK
    rw [Lib.index_one]
    have hge := Lib.indexByte_ge l 46
    by_cases hn : Lib.indexByte l 46 = -1
    · have := Lib.indexByte_none hn
      obtain ⟨i, hi⟩ := List.getElem?_of_mem hm
      exact absurd hi (this i)
    · obtain ⟨o, ho⟩ : ∃ o : Nat, Lib.indexByte l 46 = o := ⟨(Lib.indexByte l 46).toNat, by omega⟩
      obtain ⟨h1, h2⟩ := Lib.indexByte_some ho
      have hlt : o < l.length := (List.getElem?_eq_some_iff.1 h1).1
      have hge : l[o] = 46 := (List.getElem?_eq_some_iff.1 h1).2
      have hdec : l = l.take o ++ 46 :: l.drop (o + 1) := by
        rw [← hge, ← List.drop_eq_getElem_cons hlt, List.take_append_drop]
      have hno : 46 ∉ l.take o := by
        intro hm2
        obtain ⟨j, hj⟩ := List.getElem?_of_mem hm2
        have hjo : j < o := by have := (List.getElem?_eq_some_iff.1 hj).1; simp at this; omega
        rw [List.getElem?_take_of_lt hjo] at hj
        exact h2 j hjo hj
      have hc : (l.drop (o + 1)).count 46 = k := by
        have : l.count 46 = (l.take o ++ 46 :: l.drop (o + 1)).count 46 := by rw [← hdec]
        rw [List.count_append, List.count_cons_self, List.count_eq_zero.2 hno] at this
        omega
      rw [ho]
      rw [if_neg (by simp)]
      simp only [Int.toNat_natCast, Nat.add_zero, List.length_cons, List.length_nil, Nat.zero_add]
      rw [ih _ hc]
      conv => rhs; rw [hdec]
      rw [split_hit _ _ hno]

/-- the same, as strings -/
def splitS (s : ByteArray) : List ByteArray := (split s.toList).map mk
theorem mk_inj (l : List ByteArray) (m : List Bytes) (h : l.map (·.toList) = m) : l = m.map mk := by
  subst h
  rw [List.map_map]
  have : (mk ∘ fun x : ByteArray => x.toList) = id := by funext x; exact mk_of x
  rw [this, List.map_id]
theorem splitB_eq (s : ByteArray) : Lib.splitB ⟨#[46]⟩ 0 (Lib.countB s ⟨#[46]⟩) s = splitS s := by
  refine mk_inj _ _ ?_
  have h := Lib.splitB_data ⟨#[46]⟩ 0 (Lib.countB s ⟨#[46]⟩) s
  have e : (fun x : ByteArray => x.toList) = fun x : ByteArray => x.data.toList := by funext x; exact toList_eq x
  rw [e, h, show (⟨#[46]⟩ : ByteArray).data.toList = [46] from rfl, toList_eq]
  exact splitK_eq _ _ (Lib.count_one 46 s.data.toList).symm
theorem splitS_length (s : ByteArray) : (splitS s).length = s.toList.count 46 + 1 := by
  unfold splitS; rw [List.length_map, split_length]
theorem split_le : ∀ (l p : Bytes), p ∈ split l → p.length ≤ l.length := by
  intro l
  induction l with
  | nil => intro p hp; simp [split] at hp; subst hp; simp
  | cons b r ih =>
    intro p hp
    unfold split at hp
    split at hp
    · simp only [List.mem_cons] at hp
      rcases hp with rfl | hp
      · simp
      · have := ih p hp; simp; omega
    · split at hp
      · simp only [List.mem_cons, List.mem_nil_iff, or_false] at hp; subst hp; simp
      · next q qs hq =>
        simp only [List.mem_cons] at hp
        rcases hp with rfl | hp
        · have := ih q (by rw [hq]; simp); simp; omega
        · have := ih p (by rw [hq]; simp [hp]); simp; omega
theorem splitS_le (s z : ByteArray) (h : z ∈ splitS s) : z.size ≤ s.size := by
  unfold splitS at h
  obtain ⟨p, hp, rfl⟩ := List.mem_map.1 h
  rw [mk_size, ← len_size]; exact split_le _ _ hp
theorem countB_eq (s : ByteArray) : Lib.countB s ⟨#[46]⟩ = s.toList.count 46 := by
  rw [toList_eq]; exact Lib.count_one 46 s.data.toList

/-- the element of a list of strings -/
abbrev el (zs : List ByteArray) (k : Nat) : ByteArray := zs.getD k ByteArray.empty
def isName (l : Bytes) : Bool := isLower l || isUpper l
def isPath (zs : List ByteArray) : Bool :=
  decide (1 ≤ zs.length) && decide (zs.length ≤ 8) && (List.range (zs.length - 1)).all (fun j => isUpper (el zs j).toList) && isName (el zs (zs.length - 1)).toList
theorem isPath_nil : isPath [] = false := rfl
theorem isPath_long (zs : List ByteArray) (h : 8 < zs.length) : isPath zs = false := by
  unfold isPath; rw [decide_eq_false (show ¬ zs.length ≤ 8 by omega)]; simp
theorem isPath_bad (zs : List ByteArray) (j : Nat) (hj : j < zs.length - 1) (h : isUpper (el zs j).toList = false) : isPath zs = false := by
  unfold isPath
  rw [show (List.range (zs.length - 1)).all (fun j => isUpper (el zs j).toList) = false from List.all_eq_false.2 ⟨j, List.mem_range.2 hj, by simpa using h⟩]
  simp
theorem isPath_last (zs : List ByteArray) (h1 : 1 ≤ zs.length) (h8 : zs.length ≤ 8) (h : ∀ j, j < zs.length - 1 → isUpper (el zs j).toList = true) : isPath zs = isName (el zs (zs.length - 1)).toList := by
  unfold isPath
  rw [decide_eq_true h1, decide_eq_true h8, show (List.range (zs.length - 1)).all (fun j => isUpper (el zs j).toList) = true from List.all_eq_true.2 (fun j hj => h j (List.mem_range.1 hj))]
  simp

end Go.Proofs.YtmjiocpcenbndaaGreatDoor.Pl
