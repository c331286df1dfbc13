/-
  ParsecorePrefix's walk, whole.
-/
import Derived.Test.YtjedahcpkcgpeaaGreatDoorHfM
import Derived.Test.YtjedahcpkcgpeaaGreatDoorHhM
namespace Go.Proofs.YtjedahcpkcgpeaaGreatDoor
open Go Go.RowKit
theorem prefix_all {c : Int} {rd : List Pl.Tok → Pl.PR Pl.Syn} (z : Int) (s more : ByteArray) (w : World)
    (hcat : ∀ W, Calls Tryz.prog 7 #[.int .u8 z] W fun e w' => e = .returned (.int .i64 c) ∧ Below W.heap.size W w')
    (hparse : ∀ (x : ByteArray) W, x.size ≤ maxLen → Calls Tryz.prog 8 #[.int .i64 c, .string x] W (SourceOut (sourceP c rd (Pl.tokens x.toList)) W))
    (hL : Pl.Local rd) (hin : ∀ ts, Pl.InB ts (rd ts)) : Calls Tryz.prog 4 #[.int .u8 z, .string s, .string more] w fun e w' => e = .returned (.bool true) ∧ Below w.heap.size w w' := by
  by_cases h1 : 1000 < s.size
  · exact prefix_long z s more w (.inl h1)
  by_cases h2 : 1000 < more.size
  · exact prefix_long z s more w (.inr h2)
  have h1 : s.size ≤ 1000 := by omega
  have h2 : more.size ≤ 1000 := by omega
  by_cases hE : (Pl.tokens s.toList).err = 0
  · by_cases h3 : (sourceP c rd (Pl.tokens s.toList)).err = 3
    · exact prefix_tok z s more w hcat hparse hL hin h1 h2 hE h3
    · by_cases h4 : (sourceP c rd (Pl.tokens s.toList)).err = 4
      · exact prefix_end z s more w hcat hparse hin h1 h2 hE h4
      · exact prefix_right z s more w hcat hparse h1 h2 hE h3 h4
  · exact prefix_wrong z s more w hcat hparse h1 h2 hE
theorem parsecorePrefix_walk (z : Int) (s more : ByteArray) (w : World) (hz : (Lit.int .u8 z).wf = true) : Calls Tryz.prog 4 #[.int .u8 z, .string s, .string more] w fun e w' => e = .returned (.bool true) ∧ Below w.heap.size w w' := by
  have h : (decide ((0 : Int) ≤ z) && decide (z ≤ 255)) = true := hz
  rw [Bool.and_eq_true] at h
  have h0 : 0 ≤ z := of_decide_eq_true h.1
  have h1 : z ≤ 255 := of_decide_eq_true h.2
  obtain ⟨a, rfl⟩ : ∃ a : Nat, z = a := ⟨z.toNat, by omega⟩
  have e1 : (a : Int).tmod 3 = ((a % 3 : Nat) : Int) := by rw [Int.tmod_eq_emod_of_nonneg h0]; rfl
  have ha : a % 3 < 3 := Nat.mod_lt _ (by decide)
  have hc := fun W => cat4_any a (a % 3) W (by omega) e1 ha
  generalize a % 3 = k at *
  match k, ha with
  | 0, _ => exact prefix_all (c := 1) (rd := fun ts => (Pl.full ts numOfText).typ 0) a s more w hc (fun x W hx => parse1_any x W hx) (Pl.local_typ numOfText) (fun ts => (Pl.full_within ts numOfText).typ 0 (Nat.zero_le _))
  | 1, _ => exact prefix_all (c := 2) (rd := fun ts => (Pl.full ts numOfText).pat 0) a s more w hc (fun x W hx => parse2_any x W hx) (Pl.local_pat numOfText) (fun ts => (Pl.full_within ts numOfText).pat 0 (Nat.zero_le _))
  | 2, _ => exact prefix_all (c := 3) (rd := fun ts => (Pl.full ts numOfText).expr 0) a s more w hc (fun x W hx => parse3_any x W hx) (Pl.local_expr numOfText) (fun ts => (Pl.full_within ts numOfText).expr 0 (Nat.zero_le _))
end Go.Proofs.YtjedahcpkcgpeaaGreatDoor
