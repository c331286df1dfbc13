/-
  Walks of layer 3: the kinds of parts.
-/
import Derived.Test.YtkhpihacjhhklaaTa
import Derived.Test.YtkhpihacjhhklaaSs
namespace Go.Proofs.Ytkhpihacjhhklaa
open Go Go.RowKit
open Pl (Syn)
set_option linter.unusedSimpArgs false

theorem parts_len (l : List Syn) : ∀ cs : List Int, l.length ≠ cs.length → Pl.parts l cs = false := by
  induction l with
  | nil => intro cs h; cases cs with | nil => exact absurd rfl h | cons c cs => rfl
  | cons t r ih => intro cs h; cases cs with | nil => rfl | cons c cs => rw [Pl.parts, ih cs (by simpa using h), Bool.and_false]
theorem parts_iff (l : List Syn) : ∀ cs : List Int, l.length = cs.length → (Pl.parts l cs = true ↔ ∀ j (h : j < l.length) (h' : j < cs.length), Pl.bel l[j].op cs[j] = true) := by
  induction l with
  | nil => intro cs h; cases cs with | nil => simp [Pl.parts] | cons c cs => simp at h
  | cons t r ih =>
    intro cs h
    cases cs with
    | nil => simp at h
    | cons c cs =>
      rw [Pl.parts, Bool.and_eq_true, ih cs (by simpa using h)]
      constructor
      · rintro ⟨h1, h2⟩ j hj hj'
        cases j with
        | zero => exact h1
        | succ j => exact h2 j (by simpa using hj) (by simpa using hj')
      · intro hh
        exact ⟨hh 0 (by simp) (by simp), fun j hj hj' => hh (j + 1) (by simpa using hj) (by simpa using hj')⟩
/-- a slice of numbers -/
def IntSl (w : World) (v : Value) (cs : List Int) : Prop := ∃ a c, v = .slice a cs.length c ∧ cs.length ≤ 100 ∧ (cs = [] ∨ ∃ b off, a = some ⟨b, off, none⟩ ∧ b < w.heap.size ∧ IntsAt w b off cs)
theorem intSl_nil (w : World) : IntSl w (.slice none 0 0) [] := ⟨none, 0, rfl, by decide, .inl rfl⟩
theorem intSl_1 (w : World) (x : Int) (c : Nat) : IntSl (w.alloc (.cells #[.int .i64 x] 3)) (.slice (some ⟨w.heap.size, 0, none⟩) 1 c) [x] :=
  ⟨_, c, rfl, by simp, .inr ⟨_, 0, rfl, by rw [size_alloc]; omega, fun j hj => by
    have := blk_new w #[.int .i64 x] 3
    match j, hj with
    | 0, _ => exact this.cell 0 _ rfl⟩⟩
theorem intSl_2 (w : World) (x y : Int) (c : Nat) : IntSl (w.alloc (.cells #[.int .i64 x, .int .i64 y] 3)) (.slice (some ⟨w.heap.size, 0, none⟩) 2 c) [x, y] :=
  ⟨_, c, rfl, by simp, .inr ⟨_, 0, rfl, by rw [size_alloc]; omega, fun j hj => by
    have := blk_new w #[.int .i64 x, .int .i64 y] 3
    match j, hj with
    | 0, _ => exact this.cell 0 _ rfl
    | 1, _ => exact this.cell 1 _ rfl⟩⟩
theorem intSl_3 (w : World) (x y z : Int) (c : Nat) : IntSl (w.alloc (.cells #[.int .i64 x, .int .i64 y, .int .i64 z] 3)) (.slice (some ⟨w.heap.size, 0, none⟩) 3 c) [x, y, z] :=
  ⟨_, c, rfl, by simp, .inr ⟨_, 0, rfl, by rw [size_alloc]; omega, fun j hj => by
    have := blk_new w #[.int .i64 x, .int .i64 y, .int .i64 z] 3
    match j, hj with
    | 0, _ => exact this.cell 0 _ rfl
    | 1, _ => exact this.cell 1 _ rfl
    | 2, _ => exact this.cell 2 _ rfl⟩⟩
theorem IntSl.below {w w' : World} {v : Value} {cs : List Int} (h : IntSl w v cs) (hb : Below w.heap.size w w') : IntSl w' v cs := by
  obtain ⟨a, c, rfl, h1, h2⟩ := h
  refine ⟨a, c, rfl, h1, ?_⟩
  rcases h2 with h2 | ⟨b, off, rfl, h3, h4⟩
  · exact .inl h2
  · exact .inr ⟨b, off, rfl, Nat.lt_of_lt_of_le h3 hb.size, fun j hj => (hb.cell (p := ⟨b, off + j, none⟩) h3).trans (h4 j hj)⟩
set_option maxRecDepth 100000 in
set_option maxHeartbeats 4000000 in
theorem areParts_any (P : Nat → Prop) (v u : Value) (l : List Syn) (cs : List Int) (w : World) (h : SynSl w P v l) (hc : IntSl w u cs) :
    Calls Try.prog 75 #[v, u] w fun e w' => e = .returned (.bool (Pl.parts l cs)) ∧ w = w' := by
  obtain ⟨ca, cc, rfl, hc1, hc2⟩ := hc
  by_cases hl : l.length = cs.length
  · rcases hc2 with rfl | ⟨cb, co, rfl, -, hci⟩
    · have : l = [] := List.eq_nil_of_length_eq_zero (by simpa using hl)
      subst this
      obtain ⟨a, c, rfl, -⟩ := h
      go_enter Try.func75, Try.ntmps75
      go_wp2_with fail
      go_loopg [14] 1 (fun g v wr => v = .int .i64 0 ∧ wr = w)
      case atStart => exact ⟨rfl, rfl⟩
      case round =>
        obtain ⟨rfl, rfl⟩ := hrel
        go_wp2
        go_ret
        exact ⟨rfl, rfl⟩
    · rcases h.cases with ⟨rfl, -⟩ | ⟨b, off, n, c, rfl, hnl, hn0, hnc, hcm, hPb, hka⟩
      · have : cs = [] := List.eq_nil_of_length_eq_zero (by simpa using hl.symm)
        subst this
        obtain ⟨a, c, rfl, -⟩ := h
        go_enter Try.func75, Try.ntmps75
        go_wp2_with fail
        go_loopg [14] 1 (fun g v wr => v = .int .i64 0 ∧ wr = w)
        case atStart => exact ⟨rfl, rfl⟩
        case round =>
          obtain ⟨rfl, rfl⟩ := hrel
          go_wp2
          go_ret
          exact ⟨rfl, rfl⟩
      · generalize hcn : cs.length = m at *
        have hmn : m = n := by omega
        subst hmn
        have HNL := Lib.hid hnl
        have HCN := Lib.hid hcn
        have HKA := Lib.hid hka
        have HCI := Lib.hid hci
        have HPI := Lib.hid (parts_iff l cs (by omega))
        unfold maxLen at hcm
        generalize Pl.parts l cs = pr at *
        clear h hl hnl hcn hka hci hPb
        go_enter Try.func75, Try.ntmps75
        go_wp2_with fail
        go_loopg [14] (m + 1) (fun g v wr => ∃ k : Nat, k ≤ m ∧ v = .int .i64 k ∧ g = m + 1 - k ∧ wr = w ∧ ∀ j (h : j < l.length) (h' : j < cs.length), j < k → Pl.bel l[j].op cs[j] = true)
        case atStart => exact ⟨0, by omega, rfl, by omega, rfl, fun j h h' hj => absurd hj (Nat.not_lt_zero _)⟩
        case round =>
          obtain ⟨k, hk, rfl, hg, rfl, hall⟩ := hrel
          have HA := Lib.hid hall
          clear hall
          by_cases hlt : k < m
          · have hkl : k < l.length := by rw [HNL.out]; exact hlt
            have hkc : k < cs.length := by rw [HCN.out]; exact hlt
            obtain ⟨xo, xn, xs, na, nn, nc, la, ln, lc, hxo, a0, -⟩ := HKA.out.part k hkl
            have i0 := HCI.out k hkc
            have HC := Lib.hid (belongs_any xo cs[k] wr)
            have HX := Lib.hid (show Pl.bel xo cs[k] = true → ∀ j (h : j < l.length) (h' : j < cs.length), j < k + 1 → Pl.bel l[j].op cs[j] = true from fun hb j h h' hj => by
              rcases Nat.lt_or_ge j k with h1 | h1
              · exact HA.out j h h' h1
              · obtain rfl : j = k := by omega
                rw [hxo]; exact hb)
            have HN := Lib.hid (show Pl.bel xo cs[k] = false → pr = false from fun hb => by
              rw [Bool.eq_false_iff]
              intro he
              have := HPI.out.1 he k hkl hkc
              rw [hxo, hb] at this; cases this)
            clear hxo
            generalize Pl.bel xo cs[k] = r at *
            generalize cs[k] = ck at *
            cases r
            · go_wp2_with (go_at_call 31; refine HC.out.mono ?_; rintro e w2 ⟨rfl, rfl⟩)
              go_ret
              exact ⟨ret_bool (HN.out (by first | rfl | trivial)).symm, rfl⟩
            · go_wp2_with (go_at_call 31; refine HC.out.mono ?_; rintro e w2 ⟨rfl, rfl⟩)
              go_roundg (gk - 1)
              case measure => omega
              case rel => exact ⟨k + 1, by omega, by go_num, by omega, rfl, HX.out (by first | rfl | trivial)⟩
          · go_wp2
            go_ret
            exact ⟨ret_bool (HPI.out.2 (fun j h h' => HA.out j h h' (by rw [HNL.out] at h; omega))).symm, rfl⟩
  · have HN := Lib.hid (parts_len l cs hl)
    obtain ⟨a, c, rfl, h1, h2, -⟩ := h
    unfold maxLen at h2
    generalize Pl.parts l cs = pr at *
    generalize l.length = n at *
    generalize cs.length = m at *
    have q : ((n : Int) != (m : Int)) = true := by simp; omega
    clear hc2
    go_enter Try.func75, Try.ntmps75
    go_wp2
    go_ret
    exact ⟨ret_bool HN.out.symm, rfl⟩
end Go.Proofs.Ytkhpihacjhhklaa
