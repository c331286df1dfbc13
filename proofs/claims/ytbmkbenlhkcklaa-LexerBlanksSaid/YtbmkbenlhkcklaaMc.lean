/-
  Walks of layer 2: the reference's Same, at equal lists.
-/
import Derived.Test.YtbmkbenlhkcklaaMb
namespace Go.Proofs.Ytbmkbenlhkcklaa
open Go.RowKit

/-- two tokens that Same takes for equal -/
def TokEq (at_ : Bool) (t u : Pl.Tok) : Prop := t.kind = u.kind ∧ t.text = u.text ∧ (at_ = true → t.line = u.line ∧ t.col = u.col)
set_option maxRecDepth 100000 in
set_option maxHeartbeats 2000000 in
theorem same_some (at_ : Bool) (b off c b' off' c' : Nat) (n : Nat) (ts us : List Pl.Tok) (w : World) (hn : ts.length = n) (hn' : us.length = n) (hm : n ≤ maxLen)
    (ha : ∀ j (hj : j < ts.length), TokAt w b (off + 4 * j) ts[j]) (hb : ∀ j (hj : j < us.length), TokAt w b' (off' + 4 * j) us[j]) (he : ∀ j (hj : j < ts.length) (hj' : j < us.length), TokEq at_ ts[j] us[j]) :
    Calls Try.prog 13 #[.slice (some ⟨b, off, none⟩) n c, .slice (some ⟨b', off', none⟩) n c', .bool at_] w fun e w' => e = .returned (.bool true) ∧ Below w.heap.size w w' := by
  unfold maxLen at hm
  have HA := Lib.hid ha
  have HB := Lib.hid hb
  have HE := Lib.hid he
  clear ha hb he
  have HBL : Hid (Below w.heap.size w w) := Below.refl _ _
  go_enter Try.func13, Try.ntmps13
  go_wp2_with fail
  go_loopg [7] (n + 1) (fun g v wr => ∃ k : Nat, k ≤ n ∧ v = .int .i64 k ∧ g = n + 1 - k ∧ ∃ q, wr = w.drewN q)
  case atStart => exact ⟨0, by omega, rfl, by omega, 0, rfl⟩
  case round =>
    obtain ⟨k, hk, rfl, hg, q, rfl⟩ := hrel
    by_cases hlt : k < n
    · obtain ⟨e1, e2, e3⟩ := HE.out k (by omega) (by omega)
      obtain ⟨a0, a1, a2, a3⟩ := (show TokAt (w.drewN q) b (off + k * 4) ts[k] from by rw [Nat.mul_comm]; exact HA.out k (by omega))
      obtain ⟨b0, b1, b2, b3⟩ := (show TokAt (w.drewN q) b' (off' + k * 4) us[k] from by rw [Nat.mul_comm]; exact HB.out k (by omega))
      have HQ := Lib.hid (below_drewN HBL.out q)
      have hwq : ∀ m, ∃ q', (w.drewN q).drewN m = w.drewN q' := fun m => ⟨q + m, by simp [World.drewN, Nat.add_assoc]⟩
      have HWQ := Lib.hid hwq
      clear hwq
      generalize w.drewN q = wr at a0 a1 a2 a3 b0 b1 b2 b3 HQ HWQ ⊢
      rw [← e1] at b0
      rw [← e2] at b1
      generalize (ts[k]'(by omega)).kind = kd at a0 b0
      generalize Pl.mk (ts[k]'(by omega)).text = tx at a1 b1
      clear e1 e2
      cases at_
      · clear e3 a2 a3 b2 b3
        go_wp2
        go_quiet (fail)
        go_wp2
        obtain ⟨q2, hq2⟩ := HWQ.out nq
        go_roundg (gk - 1)
        case measure => omega
        case rel => exact ⟨k + 1, by omega, by go_num, by omega, q2, hq2⟩
      · obtain ⟨e4, e5⟩ := e3 rfl
        rw [← e4] at b2
        rw [← e5] at b3
        generalize (ts[k]'(by omega)).line = li at a2 b2
        generalize (ts[k]'(by omega)).col = co at a3 b3
        clear e3 e4 e5
        go_wp2
        go_quiet (fail)
        go_wp2
        obtain ⟨q2, hq2⟩ := HWQ.out nq
        go_roundg (gk - 1)
        case measure => omega
        case rel => exact ⟨k + 1, by omega, by go_num, by omega, q2, hq2⟩
    · have hkn : k = n := by omega
      have HKN := Lib.hid hkn
      clear hkn
      go_wp2
      go_ret
      exact ⟨rfl, below_drewN HBL.out q⟩
theorem same_none (at_ : Bool) (a c a' c') (w : World) :
    Calls Try.prog 13 #[.slice a 0 c, .slice a' 0 c', .bool at_] w fun e w' => e = .returned (.bool true) ∧ Below w.heap.size w w' := by
  have HBL : Hid (Below w.heap.size w w) := Below.refl _ _
  go_enter Try.func13, Try.ntmps13
  go_wp2_with fail
  go_loopg [7] 1 (fun g v wr => v = .int .i64 0 ∧ wr = w)
  case atStart => exact ⟨rfl, rfl⟩
  case round =>
    obtain ⟨rfl, rfl⟩ := hrel
    go_wp2
    go_ret
    exact ⟨rfl, HBL.out⟩
theorem same_any (at_ : Bool) (a b : Value) (ts us : List Pl.Tok) (w : World) (ha : TokSlice w a ts) (hb : TokSlice w b us) (hl : ts.length = us.length) (he : ∀ j (hj : j < ts.length) (hj' : j < us.length), TokEq at_ ts[j] us[j]) :
    Calls Try.prog 13 #[a, b, .bool at_] w fun e w' => e = .returned (.bool true) ∧ Below w.heap.size w w' := by
  rcases ha with ⟨h0, a, c, rfl⟩ | ⟨g, off, c, rfl, h1, h2, h3, h4, h5⟩
  · rcases hb with ⟨_, a', c', rfl⟩ | ⟨g', off', c', rfl, h1', h2', h3', h4', h5'⟩
    · exact same_none at_ _ _ _ _ w
    · have h0' : ts.length = 0 := by rw [h0]; rfl
      omega
  · rcases hb with ⟨h0, a', c', rfl⟩ | ⟨g', off', c', rfl, h1', h2', h3', h4', h5'⟩
    · have h0' : us.length = 0 := by rw [h0]; rfl
      omega
    · rw [← hl]
      exact same_some at_ g off c g' off' c' _ ts us w rfl hl.symm (Nat.le_trans h2 h3) h5 h5' he
end Go.Proofs.Ytbmkbenlhkcklaa
