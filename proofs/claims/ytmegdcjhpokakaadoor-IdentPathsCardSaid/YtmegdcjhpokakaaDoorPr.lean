/-
  Plain mathematics of layer 1: how the reference cuts a text at its full stops, byte by byte; and the text of a path.
-/
import Derived.Test.YtmegdcjhpokakaaDoorPn
import Derived.Lib.Join
namespace Go.Proofs.YtmegdcjhpokakaaDoor.Pl
open Go

/-- from 'last' up to i there is no full stop -/
def nodot (s : ByteArray) (last i : Nat) : Prop := 46 ∉ (s.toList.drop last).take (i - last)
/-- the pieces of what begins at 'last' -/
def pcs (s : ByteArray) (last : Nat) : List ByteArray := (split (s.toList.drop last)).map mk
theorem pcs_zero (s : ByteArray) : pcs s 0 = splitS s := rfl
theorem nodot_self (s : ByteArray) (i : Nat) : nodot s i i := by unfold nodot; simp
theorem take_step (s : ByteArray) (last i : Nat) (h1 : last ≤ i) (h : i < s.size) : (s.toList.drop last).take (i + 1 - last) = (s.toList.drop last).take (i - last) ++ [s[i]] := by
  have e : i + 1 - last = (i - last) + 1 := by omega
  have hl : i - last < (s.toList.drop last).length := by rw [List.length_drop, len_size]; omega
  rw [e, List.take_succ_eq_append_getElem hl]
  congr 2
  rw [List.getElem_drop]
  have e2 : last + (i - last) = i := by omega
  have h3 := drop_cons s i h
  have h4 : s.toList[i]'(by rw [len_size]; exact h) = s[i] := by
    have := List.drop_eq_getElem_cons (l := s.toList) (i := i) (by rw [len_size]; exact h)
    rw [h3] at this
    exact (List.cons.inj this).1.symm
  simp only [e2]; exact h4
theorem nodot_step (s : ByteArray) (last i : Nat) (h1 : last ≤ i) (h : i < s.size) (hn : nodot s last i) (hb : s[i] ≠ 46) : nodot s last (i + 1) := by
  unfold nodot at *
  rw [take_step s last i h1 h, List.mem_append]
  rintro (hm | hm)
  · exact hn hm
  · simp at hm; exact hb hm.symm
theorem extract_piece (s : ByteArray) (last i : Nat) : s.extract last i = mk ((s.toList.drop last).take (i - last)) := by
  rw [← mk_of (s.extract last i), Lib.extract_toList, ← toList_eq]
theorem pcs_dot (s : ByteArray) (last i : Nat) (h1 : last ≤ i) (h : i < s.size) (hn : nodot s last i) (hb : s[i] = 46) : pcs s last = s.extract last i :: pcs s (i + 1) := by
  have hd : s.toList.drop last = (s.toList.drop last).take (i - last) ++ 46 :: s.toList.drop (i + 1) := by
    have h2 : (s.toList.drop last).drop (i - last) = s.toList.drop i := by rw [List.drop_drop]; congr 1; omega
    have h3 := drop_cons s i h
    rw [hb] at h3
    rw [← h3, ← h2, List.take_append_drop]
  unfold pcs
  rw [extract_piece]
  conv => lhs; rw [hd]
  rw [split_hit _ _ hn, List.map_cons]
theorem pcs_end (s : ByteArray) (last : Nat) (hn : nodot s last s.size) : pcs s last = [s.extract last s.size] := by
  have e : (s.toList.drop last).take (s.size - last) = s.toList.drop last := List.take_of_length_le (by rw [List.length_drop, len_size]; exact Nat.le_refl _)
  have hn2 := hn
  unfold nodot at hn2
  rw [e] at hn2
  unfold pcs
  rw [split_none _ hn2, extract_piece, e]; rfl
/-- where the reference's loop stands -/
def PathRel (s : ByteArray) (done : List ByteArray) (last i : Nat) : Prop :=
  (i ≤ s.size ∧ last ≤ i ∧ nodot s last i ∧ splitS s = done ++ pcs s last) ∨ (i = s.size + 1 ∧ splitS s = done)
theorem pathRel_zero (s : ByteArray) : PathRel s [] 0 0 := .inl ⟨Nat.zero_le _, Nat.le_refl _, nodot_self s 0, rfl⟩
theorem pathRel_step (s : ByteArray) (done : List ByteArray) (last i : Nat) (h : i < s.size) (hb : s[i] ≠ 46) (hr : PathRel s done last i) : PathRel s done last (i + 1) := by
  rcases hr with ⟨_, h2, h3, h4⟩ | ⟨h1, _⟩
  · exact .inl ⟨by omega, by omega, nodot_step s last i h2 h h3 hb, h4⟩
  · omega
theorem pathRel_dot (s : ByteArray) (done : List ByteArray) (last i : Nat) (h : i < s.size) (hb : s[i] = 46) (hr : PathRel s done last i) : PathRel s (done ++ [s.extract last i]) (i + 1) (i + 1) := by
  rcases hr with ⟨_, h2, h3, h4⟩ | ⟨h1, _⟩
  · exact .inl ⟨by omega, Nat.le_refl _, nodot_self s _, by rw [h4, pcs_dot s last i h2 h h3 hb, List.append_assoc]; rfl⟩
  · omega
theorem pathRel_end (s : ByteArray) (done : List ByteArray) (last i : Nat) (h : i = s.size) (hr : PathRel s done last i) : PathRel s (done ++ [s.extract last i]) (i + 1) (i + 1) := by
  rcases hr with ⟨_, h2, h3, h4⟩ | ⟨h1, _⟩
  · subst h; exact .inr ⟨rfl, by rw [h4, pcs_end s last h3]⟩
  · omega
theorem pathRel_last (s : ByteArray) (done : List ByteArray) (last i : Nat) (h : i ≤ s.size) (hr : PathRel s done last i) : last ≤ i := by
  rcases hr with ⟨_, h2, _, _⟩ | ⟨h1, _⟩ <;> omega
theorem pathRel_done (s : ByteArray) (done : List ByteArray) (last i : Nat) (h : s.size < i) (hr : PathRel s done last i) : splitS s = done := by
  rcases hr with ⟨h1, _, _, _⟩ | ⟨_, h2⟩
  · omega
  · exact h2

/-- the text of a path -/
def jn (zs : List ByteArray) : Bytes := Lib.join (zs.map (·.data.toList)) [46]
theorem jn_nil : jn [] = [] := rfl
theorem joinTail_snoc (sep : Bytes) (r : List Bytes) (x : Bytes) : Lib.joinTail sep (r ++ [x]) = Lib.joinTail sep r ++ (sep ++ x) := by
  unfold Lib.joinTail; simp
theorem jn_one (z : ByteArray) : jn [z] = z.toList := by unfold jn; rw [toList_eq]; exact Lib.join_one _ _
theorem jn_snoc (zs : List ByteArray) (z : ByteArray) (h : 1 ≤ zs.length) : jn (zs ++ [z]) = jn zs ++ [46] ++ z.toList := by
  cases zs with
  | nil => simp at h
  | cons y r =>
    unfold jn
    simp only [List.cons_append, List.map_cons, List.map_append, List.map_nil]
    rw [Lib.join_cons, Lib.join_cons, joinTail_snoc, toList_eq]
    simp
theorem el_take (zs : List ByteArray) (k : Nat) (h : k < zs.length) : zs.take (k + 1) = zs.take k ++ [el zs k] := by
  rw [List.take_succ_eq_append_getElem h]
  simp [el, List.getD, h]
theorem jn_len : ∀ (n : Nat) (zs : List ByteArray), zs.length = n → (∀ z ∈ zs, z.size ≤ 24) → (jn zs).length ≤ 25 * n := by
  intro n
  induction n with
  | zero => intro zs h _; rw [List.eq_nil_of_length_eq_zero h]; exact Nat.le_refl _
  | succ n ih =>
    intro zs h hz
    have hne : zs ≠ [] := by intro e; subst e; simp at h
    have hlast := hz _ (List.getLast_mem hne)
    have hl : zs.dropLast.length = n := by rw [List.length_dropLast]; omega
    have hi := ih zs.dropLast hl (fun z hm => hz z ((List.dropLast_sublist zs).subset hm))
    rw [← List.dropLast_concat_getLast hne]
    by_cases h0 : 1 ≤ zs.dropLast.length
    · rw [jn_snoc _ _ h0]
      simp only [List.length_append, List.length_cons, List.length_nil, len_size]
      omega
    · have : zs.dropLast = [] := List.eq_nil_of_length_eq_zero (by omega)
      rw [this, List.nil_append, jn_one, len_size]; omega
theorem path_len (zs : List ByteArray) (h : isPath zs = true) : 1 ≤ zs.length ∧ zs.length ≤ 8 := by
  unfold isPath at h
  simp only [Bool.and_eq_true, decide_eq_true_eq] at h
  exact h.1.1
theorem path_el (zs : List ByteArray) (h : isPath zs = true) (j : Nat) (hj : j < zs.length) : isName (el zs j).toList = true := by
  unfold isPath at h
  simp only [Bool.and_eq_true, decide_eq_true_eq] at h
  by_cases e : j = zs.length - 1
  · rw [e]; exact h.2
  · have := List.all_eq_true.1 h.1.2 j (List.mem_range.2 (by omega))
    unfold isName; rw [this]; simp
theorem name_size (z : ByteArray) (h : isName z.toList = true) : z.size ≤ 24 := by
  have := (isWord_le _ (name_word _ h)).2
  rwa [len_size] at this
theorem path_mem (zs : List ByteArray) (h : isPath zs = true) : ∀ z ∈ zs, isName z.toList = true := by
  intro z hz
  obtain ⟨j, hj, rfl⟩ := List.getElem_of_mem hz
  have := path_el zs h j hj
  have e : el zs j = zs[j] := by simp [el, List.getD, hj]
  rwa [e] at this
theorem path_size (zs : List ByteArray) (h : isPath zs = true) : ∀ z ∈ zs, z.size ≤ 24 := fun z hz => name_size z (path_mem zs h z hz)
theorem take_jn_len (zs : List ByteArray) (h : isPath zs = true) (k : Nat) (hk : k ≤ zs.length) : (jn (zs.take k)).length ≤ 200 := by
  have h8 := (path_len zs h).2
  have := jn_len k (zs.take k) (by rw [List.length_take]; omega) (fun z hz => path_size zs h z (List.mem_of_mem_take hz))
  omega
/-- a path's text is cut into the path -/
theorem split_jn : ∀ (n : Nat) (zs : List ByteArray), zs.length = n + 1 → (∀ z ∈ zs, isName z.toList = true) → split (jn zs) = zs.map (·.toList) := by
  intro n
  induction n with
  | zero =>
    intro zs h hz
    obtain ⟨z, rfl⟩ := List.length_eq_one_iff.1 h
    rw [jn_one, split_none _ (name_nodot _ (hz z (by simp)))]; rfl
  | succ n ih =>
    intro zs h hz
    cases zs with
    | nil => simp at h
    | cons z r =>
      have hr : r ≠ [] := by intro e; subst e; simp at h
      have hj : jn (z :: r) = z.toList ++ 46 :: jn r := by
        cases r with
        | nil => exact absurd rfl hr
        | cons y t =>
          unfold jn
          simp only [List.map_cons]
          rw [Lib.join_cons, Lib.join_cons, toList_eq]
          simp [Lib.joinTail]
      rw [hj, split_hit _ _ (name_nodot _ (hz z (by simp))), ih r (by simp at h; omega) (fun y hy => hz y (by simp [hy])), List.map_cons]
theorem splitS_jn (zs : List ByteArray) (h : isPath zs = true) : splitS (mk (jn zs)) = zs := by
  have hl := path_len zs h
  unfold splitS
  rw [mk_toList, split_jn (zs.length - 1) zs (by omega) (path_mem zs h)]
  exact (mk_inj zs _ rfl).symm
theorem jn_count (zs : List ByteArray) (h : isPath zs = true) : (jn zs).count 46 = zs.length - 1 := by
  have h1 := split_length (jn zs)
  have hl := path_len zs h
  rw [split_jn (zs.length - 1) zs (by omega) (path_mem zs h), List.length_map] at h1
  omega

end Go.Proofs.YtmegdcjhpokakaaDoor.Pl
