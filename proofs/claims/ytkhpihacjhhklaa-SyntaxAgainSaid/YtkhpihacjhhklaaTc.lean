/-
  Walks of layer 3: paths, and lists of names, of the program and of the reference.
-/
import Derived.Test.YtkhpihacjhhklaaTb
namespace Go.Proofs.Ytkhpihacjhhklaa
open Go Go.RowKit
open Pl (Syn)
set_option linter.unusedSimpArgs false

/-- a test of a name, as a function value -/
structure NameFn where
  fid : FuncId
  p : ByteArray → Bool
  enter : ∀ (args : Array Value) (w : World), Sem.run Try.prog (callFunc fid args) w = .ok (.enter fid args) w
  calls : ∀ (s : ByteArray) (w : World), s.size ≤ maxLen → Calls Try.prog fid #[.string s] w fun e w' => e = .returned (.bool (p s)) ∧ w = w'
def lowFn : NameFn where
  fid := 68
  p := Pl.lowS
  enter := fun args w => by kernel_rfl
  calls := fun s w hs => isLower_any s w hs
def upFn : NameFn where
  fid := 69
  p := Pl.upS
  enter := fun args w => by kernel_rfl
  calls := fun s w hs => isUpper_any s w hs
def varFn : NameFn where
  fid := 67
  p := Pl.varS
  enter := fun args w => by kernel_rfl
  calls := fun s w hs => isVar_any s w hs
theorem all_false_at (p : ByteArray → Bool) (zs : List ByteArray) (k : Nat) (hk : k < zs.length) (h : p zs[k] = false) : zs.all p = false := by
  rw [List.all_eq_false]; exact ⟨zs[k], List.getElem_mem hk, by simp [h]⟩
theorem all_take_snoc (p : ByteArray → Bool) (zs : List ByteArray) (k : Nat) (hk : k < zs.length) : (zs.take (k + 1)).all p = ((zs.take k).all p && p zs[k]) := by
  rw [List.take_succ_eq_append_getElem hk, List.all_append]; simp
set_option maxRecDepth 100000 in
set_option maxHeartbeats 4000000 in
theorem allNames_any (F : NameFn) (P : Nat → Prop) (v : Value) (zs : List ByteArray) (w : World) (h : StrSl w P v zs) :
    Calls Try.prog 73 #[v, .func (.func F.fid) #[] #[]] w fun e w' => e = .returned (.bool (zs.all F.p)) ∧ w = w' := by
  obtain ⟨a, c, rfl, h1, h2, -, h4, h5⟩ := h
  unfold maxLen at h2
  rcases h5 with rfl | ⟨b, off, rfl, -, h5⟩
  · clear h4
    go_enter Try.func73, Try.ntmps73
    go_wp2_with fail
    go_loopg [9] 1 (fun g v wr => v = .int .i64 0 ∧ wr = w)
    case atStart => exact ⟨rfl, rfl⟩
    case round =>
      obtain ⟨rfl, rfl⟩ := hrel
      go_wp2
      go_ret
      exact ⟨rfl, rfl⟩
  · have H5 := Lib.hid h5
    have HZ := Lib.hid h4
    generalize hn : zs.length = n at *
    have HN := Lib.hid hn
    have HF := Lib.hid F.calls
    have HE := Lib.hid F.enter
    clear h4 h5 hn
    go_enter Try.func73, Try.ntmps73
    go_wp2_with fail
    go_loopg [9] (n + 1) (fun g v wr => ∃ k : Nat, k ≤ n ∧ v = .int .i64 k ∧ g = n + 1 - k ∧ wr = w ∧ (zs.take k).all F.p = true)
    case atStart => exact ⟨0, by omega, rfl, by omega, rfl, by simp⟩
    case round =>
      obtain ⟨k, hk, rfl, hg, rfl, hall⟩ := hrel
      have HA := Lib.hid hall
      clear hall
      by_cases hlt : k < n
      · have hkl : k < zs.length := by rw [HN.out]; exact hlt
        have a0 := H5.out k hkl
        have HC := Lib.hid (fun W => HF.out zs[k] W (HZ.out _ (List.getElem_mem hkl)))
        have HNO := Lib.hid (fun h => all_false_at F.p zs k hkl h)
        have HYS := Lib.hid (all_take_snoc F.p zs k hkl)
        generalize zs[k] = z at *
        go_wp2_with fail
        rw [HE.out, Oper.upon_enter]
        refine (HC.out _).mono ?_
        rintro e w2 ⟨rfl, rfl⟩
        generalize F.p z = r at *
        cases r
        · go_wp2
          go_ret
          exact ⟨ret_bool (HNO.out trivial).symm, rfl⟩
        · go_wp2
          go_roundg (gk - 1)
          case measure => omega
          case rel => exact ⟨k + 1, by omega, by go_num, by omega, rfl, by rw [HYS.out, HA.out]; rfl⟩
      · go_wp2
        go_ret
        have := HA.out
        rw [List.take_of_length_le (by rw [HN.out]; omega)] at this
        exact ⟨ret_bool this.symm, rfl⟩
theorem StrSl.sub {w : World} {P : Nat → Prop} {a : Option Addr} {n c : Nat} {zs : List ByteArray} (h : StrSl w P (.slice a n c) zs) (m : Nat) (hm : m ≤ n) : StrSl w P (.slice a m c) (zs.take m) := by
  obtain ⟨a', c', e, h1, h2, h3, h4, h5⟩ := h
  injection e with e1 e2 e3
  subst e1 e2 e3
  refine ⟨a, c, by rw [List.length_take, Nat.min_eq_left hm], by rw [List.length_take]; omega, h2, h3, fun z hz => h4 z (List.mem_of_mem_take hz), ?_⟩
  rcases h5 with rfl | ⟨b, off, rfl, h6, h7⟩
  · exact .inl (by simp)
  · refine .inr ⟨b, off, rfl, h6, fun j hj => ?_⟩
    rw [List.length_take] at hj
    rw [h7 j (by omega), List.getElem_take]
/-- what isPath says -/
def pathG (p : ByteArray → Bool) (zs : List ByteArray) : Bool := decide (1 ≤ zs.length ∧ zs.length ≤ 8) && ((zs.take (zs.length - 1)).all Pl.upS && p (zs.getD (zs.length - 1) ByteArray.empty))
theorem path_G (low : Bool) (zs : List ByteArray) : Pl.path low zs = (decide (1 ≤ zs.length) && ((zs.take (zs.length - 1)).all Pl.upS && (if low then Pl.lowS else Pl.upS) (zs.getD (zs.length - 1) ByteArray.empty))) := by
  induction zs with
  | nil => rfl
  | cons z r ih =>
    cases r with
    | nil => cases low <;> simp [Pl.path]
    | cons y r =>
      rw [Pl.path, ih]
      have h1 : (z :: y :: r).length - 1 = (y :: r).length - 1 + 1 := by simp
      rw [h1, List.take_succ_cons, List.getD_cons_succ, List.all_cons]
      simp [Bool.and_assoc]
theorem pathOk_G (low : Bool) (zs : List ByteArray) : Pl.pathOk low zs = pathG (if low then Pl.lowS else Pl.upS) zs := by
  unfold Pl.pathOk pathG
  rw [path_G, Bool.decide_and]
  cases decide (zs.length ≤ 8) <;> simp
set_option maxRecDepth 100000 in
set_option maxHeartbeats 4000000 in
theorem isPath_any (F : NameFn) (P : Nat → Prop) (v : Value) (zs : List ByteArray) (w : World) (h : StrSl w P v zs) :
    Calls Try.prog 71 #[v, .func (.func F.fid) #[] #[]] w fun e w' => e = .returned (.bool (pathG F.p zs)) ∧ w = w' := by
  have h' := h
  obtain ⟨a, c, rfl, h1, h2, -, h4, h5⟩ := h
  unfold maxLen at h2
  by_cases hn : 1 ≤ zs.length ∧ zs.length ≤ 8
  · rcases h5 with rfl | ⟨b, off, rfl, -, h5⟩
    · simp at hn
    · have HS := Lib.hid (allNames_any upFn P _ _ w (h'.sub (zs.length - 1) (by omega)))
      have hkl : zs.length - 1 < zs.length := by omega
      have hg : zs.getD (zs.length - 1) ByteArray.empty = zs[zs.length - 1] := by simp [List.getD, hkl]
      have HG := Lib.hid (show pathG F.p zs = ((zs.take (zs.length - 1)).all Pl.upS && F.p zs[zs.length - 1]) from by unfold pathG; rw [decide_eq_true hn, hg]; rfl)
      have a0 := h5 (zs.length - 1) hkl
      have HC := Lib.hid (F.calls zs[zs.length - 1] w (h4 _ (List.getElem_mem hkl)))
      have HE := Lib.hid F.enter
      rw [show upFn.p = Pl.upS from rfl, show upFn.fid = 69 from rfl] at HS
      generalize zs[zs.length - 1] = z at *
      generalize (zs.take (zs.length - 1)).all Pl.upS = r1 at *
      generalize F.p z = r2 at *
      generalize pathG F.p zs = rr at *
      clear h' h4 h5 hg
      generalize hnn : zs.length = nn at *
      obtain ⟨n, rfl⟩ : ∃ n, nn = n + 1 := ⟨nn - 1, by omega⟩
      rw [show n + 1 - 1 = n from rfl] at *
      clear hnn hkl
      cases r1
      · go_enter Try.func71, Try.ntmps71
        go_wp2_with fail
        refine HS.out.mono ?_
        rintro e w2 ⟨rfl, rfl⟩
        go_wp2
        go_ret
        exact ⟨ret_bool HG.out.symm, rfl⟩
      · go_enter Try.func71, Try.ntmps71
        go_wp2_with fail
        refine HS.out.mono ?_
        rintro e w2 ⟨rfl, rfl⟩
        go_wp2_with fail
        rw [HE.out, Oper.upon_enter]
        refine HC.out.mono ?_
        rintro e w2 ⟨rfl, rfl⟩
        go_wp2
        go_ret
        exact ⟨ret_bool (by rw [HG.out]; rfl), rfl⟩
  · have HG := Lib.hid (show pathG F.p zs = false from by unfold pathG; rw [decide_eq_false hn]; rfl)
    generalize zs.length = n at *
    clear h' h4 h5
    by_cases h0 : n = 0
    · subst h0
      go_enter Try.func71, Try.ntmps71
      go_wp2
      go_ret
      exact ⟨ret_bool HG.out.symm, rfl⟩
    · have q : decide ((n : Int) - 1 < 8) = false := by simp; omega
      go_enter Try.func71, Try.ntmps71
      go_wp2
      go_ret
      exact ⟨ret_bool HG.out.symm, rfl⟩
end Go.Proofs.Ytkhpihacjhhklaa
