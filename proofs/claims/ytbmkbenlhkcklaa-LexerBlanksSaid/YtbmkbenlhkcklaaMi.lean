/-
  Walks of layer 2: tokens as they are written.
-/
import Derived.Test.YtbmkbenlhkcklaaMh
namespace Go.Proofs.Ytbmkbenlhkcklaa
open Go.RowKit

theorem Bld.below {B b : Nat} {l : List UInt8} {w w' : World} (h : Bld B b l w) (hb : Below w.heap.size w w') : Bld B b l w' := by
  have hlt := h.lt
  have key : ∀ q, Lib.BuilderAtF 67 5 B b q (Lib.byteCells l) w → Lib.BuilderAtF 67 5 B b q (Lib.byteCells l) w' := by
    rintro q ⟨hB, u, hbk, hown, hne⟩
    refine ⟨hB, u, (hb.block b hlt).trans hbk, ?_, hne⟩
    refine hown.kept (row := some w.heap.size) ⟨hb.os, hb.tape, hb.output, hb.size, fun k hk _ => hb.block k hk⟩ (.inr ?_)
    intro e
    have := (hown.lt _ e).2
    omega
  rcases h with h | h
  · exact .inl (key _ h)
  · exact .inr (key _ h)
/-- a token as it is written -/
def wrT (t : Pl.Tok) : Pl.Bytes := if t.kind = 5 then Pl.lit t.text else t.text
/-- tokens as they are written -/
def jnStep (a : Option Pl.Bytes) (t : Pl.Tok) : Option Pl.Bytes := match a with
  | none => some (wrT t)
  | some x => some (x ++ 32 :: wrT t)
def jn (l : List Pl.Tok) : Pl.Bytes := (l.foldl jnStep none).getD []
theorem jn_nil : jn [] = [] := rfl
theorem jn_some (l : List Pl.Tok) (h : l ≠ []) : ∃ x, l.foldl jnStep none = some x := by
  have : ∀ (l : List Pl.Tok) (a : Option Pl.Bytes), l ≠ [] → ∃ x, l.foldl jnStep a = some x := by
    intro l
    induction l with
    | nil => intro a h; exact absurd rfl h
    | cons t r ih =>
      intro a _
      rw [List.foldl_cons]
      have hs : ∃ y, jnStep a t = some y := by cases a <;> exact ⟨_, rfl⟩
      obtain ⟨y, hy⟩ := hs
      cases r with
      | nil => exact ⟨y, hy⟩
      | cons t' r' => exact ih _ (by simp)
  exact this l none h
theorem jn_snoc (l : List Pl.Tok) (t : Pl.Tok) : jn (l ++ [t]) = if l = [] then wrT t else jn l ++ 32 :: wrT t := by
  unfold jn
  rw [List.foldl_append]
  by_cases h : l = []
  · subst h; rfl
  · obtain ⟨x, hx⟩ := jn_some l h
    rw [hx, if_neg h]; rfl
theorem jn_take (l : List Pl.Tok) (k : Nat) (h : k < l.length) : jn (l.take (k + 1)) = if k = 0 then wrT l[k] else jn (l.take k) ++ 32 :: wrT l[k] := by
  rw [List.take_succ_eq_append_getElem h, jn_snoc]
  by_cases h0 : k = 0
  · subst h0; rfl
  · rw [if_neg h0, if_neg]
    intro hx
    have := congrArg List.length hx
    rw [List.length_take, List.length_nil] at this
    omega
theorem jn_mono (l : List Pl.Tok) : ∀ n k, k + n ≤ l.length → (jn (l.take k)).length ≤ (jn (l.take (k + n))).length := by
  intro n
  induction n with
  | zero => intro k _; exact Nat.le_refl _
  | succ n ih =>
    intro k hk
    refine Nat.le_trans (ih k (by omega)) ?_
    rw [show k + (n + 1) = k + n + 1 from rfl, jn_take l (k + n) (by omega)]
    by_cases h0 : k + n = 0
    · rw [if_pos h0, show l.take (k + n) = [] from by rw [h0]; rfl]
      exact Nat.zero_le _
    · rw [if_neg h0, List.length_append]
      exact Nat.le_add_right _ _
theorem jn_le (l : List Pl.Tok) (k : Nat) (hk : k ≤ l.length) : (jn (l.take k)).length ≤ (jn l).length := by
  have := jn_mono l (l.length - k) k (by omega)
  rw [show k + (l.length - k) = l.length from by omega, List.take_length] at this
  exact this
/-- what Join answers for these tokens, an end taken off -/
def jv (l : List Pl.Tok) : Pl.Bytes × Int :=
  if 20000 < l.length then ([], 5) else if l.all refB then (if 16384 < (jn l).length then ([], 5) else (jn l, 0)) else ([], 3)
/-- an end taken off -/
def unend (l : List Pl.Tok) : List Pl.Tok := match l.getLast? with
  | some t => if endB t then l.dropLast else l
  | none => l
theorem body_len (l : Pl.Bytes) : (Pl.body l).length ≤ 2 * l.length := by
  have := Pl.body_take_len (Pl.mk l) (Pl.mk l).size
  rw [Pl.take_all _ _ (Nat.le_refl _), Pl.mk_toList, Pl.mk_size] at this
  omega
theorem wrT_len (t : Pl.Tok) (h : t.text.length ≤ 17000) : (wrT t).length ≤ 34002 := by
  unfold wrT
  split
  · have := Pl.lit_len t.text
    have := body_len t.text
    omega
  · omega
set_option maxRecDepth 100000 in
theorem written_text (tx : ByteArray) (li co : Int) (w : World) (hs : tx.size ≤ 17000) :
    Calls Try.prog 47 #[.agg (tkc 5 tx li co)] w fun e w' => e = .returned (.string (Pl.mk (Pl.lit tx.toList))) ∧ Below w.heap.size w w' := by
  obtain ⟨hk, hb⟩ := tok_block w 5 tx li co
  obtain ⟨d0, d1, d2, d3, -, -, -, -⟩ := hk
  have HB := Lib.hid hb
  clear hb
  unfold tkc
  go_enter Try.func47, Try.ntmps47
  go_wp2_with fail
  refine (literal_any tx _ (by omega)).mono ?_
  rintro e w2 ⟨rfl, hb2⟩
  have HB2 := Lib.hid (HB.out.trans (hb2.mono HB.out.size))
  clear hb2
  go_wp2
  go_ret
  exact ⟨rfl, HB2.out⟩
set_option maxRecDepth 100000 in
theorem written_plain (kd : Int) (tx : ByteArray) (li co : Int) (w : World) (h5 : kd ≠ 5) :
    Calls Try.prog 47 #[.agg (tkc kd tx li co)] w fun e w' => e = .returned (.string tx) ∧ Below w.heap.size w w' := by
  have p5 : (kd == 5) = false := beq_eq_false_iff_ne.2 h5
  obtain ⟨hk, hb⟩ := tok_block w kd tx li co
  obtain ⟨d0, d1, d2, d3, -, -, -, -⟩ := hk
  have HB := Lib.hid hb
  clear hb h5
  unfold tkc
  go_enter Try.func47, Try.ntmps47
  go_wp2
  go_ret
  exact ⟨rfl, HB.out⟩
theorem written_any (t : Pl.Tok) (w : World) (hs : t.text.length ≤ 17000) :
    Calls Try.prog 47 #[tokVal t] w fun e w' => e = .returned (.string (Pl.mk (wrT t))) ∧ Below w.heap.size w w' := by
  unfold tokVal wrT
  by_cases h5 : t.kind = 5
  · rw [if_pos h5, h5]
    have := written_text (Pl.mk t.text) t.line t.col w (by rw [Pl.mk_size]; exact hs)
    rw [Pl.mk_toList] at this; exact this
  · rw [if_neg h5]
    exact written_plain t.kind (Pl.mk t.text) t.line t.col w h5
end Go.Proofs.Ytbmkbenlhkcklaa
