/-
  TyconBinds holds: what is bound and unbound is as before, bound constants do not occur any more, and the spine of applications is found again. Conditions: none.
-/
import Derived.Test.YtpkgiemdnfbopaaGreatMGh
import Derived.Test.YtpkgiemdnfbopaaGreatMGd
import Derived.Test.YtpkgiemdnfbopaaGreatMGe
import Derived.Test.YtpkgiemdnfbopaaGreatMGa
import Derived.Shelf.Spec.SlicesGrow
import Derived.Deep.CutBlock
import Derived.Test.YtpkgiemdnfbopaaGreatFr9
namespace Go.Proofs.YtpkgiemdnfbopaaGreat
open Go Go.RowKit
open Pl (K Con)
set_option linter.unusedSimpArgs false
set_option linter.unusedVariables false

/-- the constructor that is applied, and its arguments -/
inductive Spn : Con → Con → List Con → Prop
  | base (t : Con) : t.op ≠ 12 → Spn t t []
  | app (t f a h : Con) (l : List Con) : t.op = 12 → t.l = [f, a] → Spn f h l → Spn t h (l ++ [a])
theorem Spn.one {t h h' : Con} {l l' : List Con} (p : Spn t h l) : Spn t h' l' → h = h' ∧ l = l' := by
  induction p generalizing h' l' with
  | base t h0 =>
    intro q
    cases q with
    | base _ _ => exact ⟨rfl, rfl⟩
    | app _ _ _ _ _ h1 _ _ => exact absurd h1 h0
  | app t f a h l h1 h2 _ ih =>
    intro q
    cases q with
    | base _ h0 => exact absurd h1 h0
    | app _ f2 a2 _ l2 _ g2 g3 =>
      rw [h2] at g2
      simp only [List.cons.injEq, and_true] at g2
      obtain ⟨rfl, rfl⟩ := g2
      obtain ⟨rfl, rfl⟩ := ih g3
      exact ⟨rfl, rfl⟩
/-- the spine of applications is found again -/
theorem Spn.apps {t h : Con} {l : List Con} (p : Spn t h l) : ∀ m : List Con, Spn (appsC t m) h (l ++ m) := by
  intro m
  have key : ∀ (m : List Con) (t : Con) (l : List Con), Spn t h l → Spn (appsC t m) h (l ++ m) := by
    intro m
    induction m with
    | nil => intro t l p; rw [List.append_nil]; exact p
    | cons x r ih =>
      intro t l p
      have := ih (ap t x) (l ++ [x]) (Spn.app (ap t x) t x h l rfl rfl p)
      rw [List.append_assoc] at this
      exact this
  exact key m t l p
theorem app_parts (t : Con) (h : Con.nodeB t = true) (h12 : t.op = 12) : ∃ f a, t.l = [f, a] := by
  unfold Con.nodeB at h
  simp only [Bool.and_eq_true] at h
  have h := h.2.1
  unfold Con.shapeB at h
  rw [h12, if_pos (by decide), Bool.and_eq_true, decide_eq_true_eq] at h
  have hl : t.l.length = 2 := by have := h.1; rw [show Con.partsOf 12 = 2 from rfl] at this; omega
  match hm : t.l, hl with
  | [f, a], _ => exact ⟨f, a, rfl⟩
/-- the elements of a block, in order -/
structure Elems (w : World) (R : Nat → Prop) (g : Nat) (cap : Nat) (l : List Con) : Prop where
  ex : ∃ cur : Array Value, Blk w g 28 cur ∧ cur.size = cap * 6 ∧ l.length ≤ cap ∧ ∀ j (h : j < l.length), ∃ x, ConIn cur (j * 6) x ∧ ConV w R l[j] x
theorem Elems.cons {w : World} {R S : Nat → Prop} {g cap : Nat} {l : List Con} (h : Elems w R g cap l) (hR : ∀ q, R q → S q) (hg : S g) (hc : cap ≤ maxLen) : ConSl w S (.slice (some ⟨g, 0, none⟩) l.length cap) l := by
  obtain ⟨cur, hb, hs, hn, hk⟩ := h.ex
  refine ⟨_, cap, rfl, hn, hc, (fun h => by cases h), .inr ⟨g, 0, rfl, hg, ?_⟩⟩
  rw [consAt_iff]
  intro j hj
  obtain ⟨x, ⟨x0, x1, x2, x3, x4, x5, rfl, c0, c1, c2, c3, c4, c5⟩, hv⟩ := hk j hj
  refine ⟨_, ⟨x0, x1, x2, x3, x4, x5, rfl, ?_, ?_, ?_, ?_, ?_, ?_⟩, hv.mono hR⟩
  all_goals rw [Nat.zero_add]; exact hb.cell _ _ (by assumption)
theorem put6_get {cur : Array Value} {o : Nat} (x0 x1 x2 x3 x4 x5 : Value) (h : o + 5 < cur.size) : ConIn (put6 cur o x0 x1 x2 x3 x4 x5) o (.agg #[x0, x1, x2, x3, x4, x5]) := by
  refine ⟨x0, x1, x2, x3, x4, x5, rfl, ?_, ?_, ?_, ?_, ?_, ?_⟩ <;> (unfold put6; simp [Array.getElem?_setIfInBounds]; omega)
theorem put6_far {cur : Array Value} {o j : Nat} {v : Value} (x0 x1 x2 x3 x4 x5 : Value) (h : ConIn cur j v) (hd : j + 5 < o ∨ o + 5 < j) : ConIn (put6 cur o x0 x1 x2 x3 x4 x5) j v := by
  obtain ⟨y0, y1, y2, y3, y4, y5, rfl, c0, c1, c2, c3, c4, c5⟩ := h
  have each : ∀ (i : Nat) (u : Value), (i < o ∨ o + 5 < i) → cur[i]? = some u → (put6 cur o x0 x1 x2 x3 x4 x5)[i]? = some u := by
    intro i u hi hu
    unfold put6
    rw [Array.getElem?_setIfInBounds_ne (by omega), Array.getElem?_setIfInBounds_ne (by omega), Array.getElem?_setIfInBounds_ne (by omega), Array.getElem?_setIfInBounds_ne (by omega), Array.getElem?_setIfInBounds_ne (by omega), Array.getElem?_setIfInBounds_ne (by omega)]
    exact hu
  exact ⟨y0, y1, y2, y3, y4, y5, rfl, each _ _ (by omega) c0, each _ _ (by omega) c1, each _ _ (by omega) c2, each _ _ (by omega) c3, each _ _ (by omega) c4, each _ _ (by omega) c5⟩
/-- half turned round: k from each end -/
def Turned (l zs : List Con) (k : Nat) : Prop := zs.length = l.length ∧ ∀ m (h : m < zs.length) (h2 : m < l.length), zs[m] = if m < k ∨ l.length - k ≤ m then l[l.length - 1 - m]'(by omega) else l[m]
theorem Turned.start (l : List Con) : Turned l l 0 := ⟨rfl, fun m h h2 => by rw [if_neg (by omega)]⟩
theorem Turned.done {l zs : List Con} {k : Nat} (h : Turned l zs k) (hk : l.length ≤ 2 * k + 1) : zs = l.reverse := by
  obtain ⟨h1, h2⟩ := h
  refine List.ext_getElem (by rw [List.length_reverse]; exact h1) (fun m hm hm2 => ?_)
  rw [List.getElem_reverse, h2 m hm (by omega)]
  by_cases hc : m < k ∨ l.length - k ≤ m
  · rw [if_pos hc]
  · rw [if_neg hc]
    congr 1
    omega
theorem Turned.swap {l zs : List Con} {k : Nat} (h : Turned l zs k) (hk : k < l.length - 1 - k) (hz : k < zs.length) (hz2 : l.length - 1 - k < zs.length) : Turned l ((zs.set k zs[l.length - 1 - k]).set (l.length - 1 - k) zs[k]) (k + 1) := by
  obtain ⟨h1, h2⟩ := h
  refine ⟨by simp [h1], fun m hm hm2 => ?_⟩
  rw [List.getElem_set]
  by_cases e1 : l.length - 1 - k = m
  · rw [if_pos e1, h2 k hz (by omega), if_neg (by omega), if_pos (by omega)]
    congr 1
    omega
  · rw [if_neg e1, List.getElem_set]
    by_cases e2 : k = m
    · subst e2
      rw [if_pos rfl, h2 _ hz2 (by omega), if_neg (by omega), if_pos (by omega)]
    · rw [if_neg e2, h2 m (by simpa using hm) hm2]
      by_cases hc : m < k ∨ l.length - k ≤ m
      · rw [if_pos hc, if_pos (by omega)]
      · rw [if_neg hc, if_neg (by omega)]
theorem Turned.swap2 {l zs : List Con} {k m n : Nat} (h : Turned l zs k) (hn : n = l.length) (hm : (n : Int) - 1 - k = m) (hk : (k : Int) < m) (hz : k < zs.length) (hz2 : m < zs.length) : Turned l ((zs.set k zs[m]).set m zs[k]) (k + 1) := by
  have e : m = l.length - 1 - k := by omega
  subst e
  exact h.swap (by omega) hz hz2
end Go.Proofs.YtpkgiemdnfbopaaGreat
namespace Go.Proofs.YtpkgiemdnfbopaaGreat
open Go Go.RowKit
open Pl (K Con)
set_option linter.unusedSimpArgs false
set_option linter.unusedVariables false

theorem ConV.drew9 {w : World} {P : Nat → Prop} {t : Con} {v : Value} (h : ConV w P t v) : ConV w.drew P t v := ConV.keep (w := w) (w' := w.drew) (fun _ _ => rfl) h
set_option maxRecDepth 100000 in
set_option maxHeartbeats 4000000 in
theorem reverse_any (R : Nat → Prop) (l : List Con) (w : World) (g cap n : Nat) (hn : n = l.length) (hE : Elems w R g cap l) (hcap : cap ≤ maxLen) (hR : ∀ q, R q → q < w.heap.size ∧ q ≠ g) :
    Calls Tryz.prog 83 #[.slice (some ⟨g, 0, none⟩) n cap] w fun e w' => e = .returned (.tuple #[]) ∧ Elems w' R g cap l.reverse ∧ Only g w w' := by
  have HN := Lib.hid hn
  have HE := Lib.hid hE
  have HR := Lib.hid hR
  have hn63 : n ≤ 9223372036854775807 := by obtain ⟨cur, -, -, h, -⟩ := hE.ex; unfold maxLen at hcap; omega
  clear hn hE hR
  go_enter Tryz.func83, Tryz.ntmps83
  go_wp2_with fail
  go_loopg [2, 3] (n + 1) (fun gk iv jv wr => ∃ (k : Nat) (zs : List Con), k ≤ n ∧ iv = .int .i64 k ∧ jv = .int .i64 ((n : Int) - 1 - k) ∧ gk = n + 1 - k ∧ Turned l zs k ∧ Elems wr R g cap zs ∧ Only g w wr)
  case atStart => exact ⟨0, l, Nat.zero_le _, rfl, by go_num, by omega, Turned.start l, HE.out, Only.refl _ _⟩
  case round =>
    obtain ⟨k, zs, hk, rfl, rfl, hgk, htu, hel, hon⟩ := hrel
    have HTU := Lib.hid htu
    have HEL := Lib.hid hel
    have HON := Lib.hid hon
    by_cases hlt : (k : Int) < (n : Int) - 1 - k
    · obtain ⟨m, hm⟩ : ∃ m : Nat, (n : Int) - 1 - k = m := ⟨n - 1 - k, by omega⟩
      rw [hm]
      have q5 : decide ((k : Int) < (m : Int)) = true := decide_eq_true (by omega)
      obtain ⟨cur, hb, hs, hzn, hkk⟩ := hel.ex
      have hzl : zs.length = n := by rw [HN.out]; exact htu.1
      have hkz : k < zs.length := by omega
      have hmz : m < zs.length := by omega
      obtain ⟨x, ⟨x0, x1, x2, x3, x4, x5, rfl, c0, c1, c2, c3, c4, c5⟩, hx⟩ := hkk k hkz
      obtain ⟨y, ⟨y0, y1, y2, y3, y4, y5, rfl, e0, e1, e2, e3, e4, e5⟩, hy⟩ := hkk m hmz
      have HKK := Lib.hid hkk
      have HSW := Lib.hid (htu.swap2 HN.out hm (by omega) hkz hmz)
      obtain ⟨ck, hck⟩ : ∃ c, c = zs[k] := ⟨_, rfl⟩
      obtain ⟨cm, hcm⟩ : ∃ c, c = zs[m] := ⟨_, rfl⟩
      rw [← hck] at hx HSW
      rw [← hcm] at hy HSW
      obtain ⟨xka, xkn, xkc, xna, xnn, xnc, xla, xln, xlc, hex, -, -, -⟩ := hx.shape
      obtain ⟨yka, ykn, ykc, yna, ynn, ync, yla, yln, ylc, hey, -, -, -⟩ := hy.shape
      simp only [Value.agg.injEq, Array.mk.injEq, List.cons.injEq, and_true] at hex hey
      obtain ⟨rfl, rfl, rfl, rfl, rfl, rfl⟩ := hex
      obtain ⟨rfl, rfl, rfl, rfl, rfl, rfl⟩ := hey
      have HX := Lib.hid hx
      have HY := Lib.hid hy
      have HM := Lib.hid hm
      have HBL := Lib.hid hb
      have f0 := hb.cell _ _ c0
      have f1 := hb.cell _ _ c1
      have f2 := hb.cell _ _ c2
      have f3 := hb.cell _ _ c3
      have f4 := hb.cell _ _ c4
      have f5 := hb.cell _ _ c5
      have g0 := hb.cell _ _ e0
      have g1 := hb.cell _ _ e1
      have g2 := hb.cell _ _ e2
      have g3 := hb.cell _ _ e3
      have g4 := hb.cell _ _ e4
      have g5 := hb.cell _ _ e5
      have t0 := hb.thaw (k * 6)
      have t1 := hb.thaw (k * 6 + 1)
      have t2 := hb.thaw (k * 6 + 2)
      have t3 := hb.thaw (k * 6 + 3)
      have t4 := hb.thaw (k * 6 + 4)
      have t5 := hb.thaw (k * 6 + 5)
      have r0 := hb.thaw (m * 6)
      have r1 := hb.thaw (m * 6 + 1)
      have r2 := hb.thaw (m * 6 + 2)
      have r3 := hb.thaw (m * 6 + 3)
      have r4 := hb.thaw (m * 6 + 4)
      have r5 := hb.thaw (m * 6 + 5)
      have HE2 := Lib.hid (show ∀ W', W' = store6 (store6 wr g (k * 6) (.int .i64 cm.op) (.int .i64 cm.n) (.string cm.s) (.slice yka ykn ykc) (.slice yna ynn ync) (.slice yla yln ylc)) g (m * 6) (.int .i64 ck.op) (.int .i64 ck.n) (.string ck.s) (.slice xka xkn xkc) (.slice xna xnn xnc) (.slice xla xln xlc) → Elems W'.drew R g cap ((zs.set k cm).set m ck) ∧ Only g w W'.drew from by
        rintro W' rfl
        have hon2 := store6_only (store6_only (Only.refl g wr) g (k * 6) (.int .i64 cm.op) (.int .i64 cm.n) (.string cm.s) (.slice yka ykn ykc) (.slice yna ynn ync) (.slice yla yln ylc) (.inl rfl)) g (m * 6) (.int .i64 ck.op) (.int .i64 ck.n) (.string ck.s) (.slice xka xkn xkc) (.slice xna xnn xnc) (.slice xla xln xlc) (.inl rfl)
        have hS : Same R wr _ := fun q hq => World.grownBy.block hon2 q (Nat.lt_of_lt_of_le (HR.out q hq).1 HON.out.size) (fun e => by injection e with e; exact (HR.out q hq).2 e)
        refine ⟨⟨⟨_, (store6_blk (store6_blk HBL.out (k * 6) _ _ _ _ _ _) (m * 6) _ _ _ _ _ _).drew, by rw [put6_size, put6_size]; exact hs, by simp; exact hzn, fun j hj => ?_⟩⟩, (HON.out.trans hon2).drew⟩
        have hj' : j < zs.length := by simpa using hj
        by_cases e1 : m = j
        · subst e1
          refine ⟨_, put6_get _ _ _ _ _ _ (by rw [put6_size, hs]; omega), ?_⟩
          rw [List.getElem_set_self]
          exact (HX.out.keep hS).drew9
        · by_cases e2 : k = j
          · subst e2
            refine ⟨_, put6_far _ _ _ _ _ _ (put6_get _ _ _ _ _ _ (by rw [hs]; omega)) (by omega), ?_⟩
            rw [List.getElem_set_ne (by omega), List.getElem_set_self]
            exact (HY.out.keep hS).drew9
          · obtain ⟨z, hz, hv⟩ := HKK.out j hj'
            refine ⟨z, put6_far _ _ _ _ _ _ (put6_far _ _ _ _ _ _ hz (by omega)) (by omega), ?_⟩
            rw [List.getElem_set_ne (by omega), List.getElem_set_ne (by omega)]
            exact (hv.keep hS).drew9)
      have HE3 := Lib.hid (HE2.out _ rfl)
      clear HE2
      unfold store6 at HE3
      have q7 : decide ((n : Int) ≤ (k : Int)) = false := decide_eq_false (by omega)
      have q8 : decide ((n : Int) ≤ (m : Int)) = false := decide_eq_false (by omega)
      generalize ck.op = ko at *
      generalize ck.n = kn' at *
      generalize ck.s = ks at *
      generalize cm.op = mo at *
      generalize cm.n = mn' at *
      generalize cm.s = ms at *
      clear htu hel hon hb hkk hx hy hck hcm c0 c1 c2 c3 c4 c5 e0 e1 e2 e3 e4 e5
      go_upto_region 3 with fail
      clear HKK HBL HX HY HM
      go_region
      go_wp2
      go_roundg (gk - 1)
      case measure => omega
      case rel => exact ⟨k + 1, _, by omega, by go_num, by go_num, by omega, HSW.out, HE3.out.1, HE3.out.2⟩
    · have q5 : decide ((k : Int) < (n : Int) - 1 - k) = false := decide_eq_false hlt
      have HT2 := Lib.hid (htu.done (by rw [← HN.out]; omega))
      rw [HT2.out] at HEL
      clear htu hel hon
      go_wp2
      go_end0
      exact ⟨rfl, HEL.out, HON.out⟩
set_option maxRecDepth 100000 in
theorem reverse_nil (w : World) :
    Calls Tryz.prog 83 #[.slice none 0 0] w fun e w' => e = .returned (.tuple #[]) ∧ w = w' := by
  go_enter Tryz.func83, Tryz.ntmps83
  go_wp2_with fail
  go_loopg [2, 3] 1 (fun gk iv jv wr => iv = .int .i64 0 ∧ jv = .int .i64 (-1) ∧ gk = 1 ∧ w = wr)
  case atStart => exact ⟨rfl, rfl, rfl, rfl⟩
  case round =>
    obtain ⟨rfl, rfl, hgk, rfl⟩ := hrel
    go_wp2
    go_end0
    exact ⟨rfl, rfl⟩
/-- a row of a call's own, turned round -/
theorem reverseCB (B : Nat) (wr : World) (ys : List Con) (us : List Value) (lv : Value) (hB : B ≤ wr.heap.size) (h : CB (fun _ => False) B wr ys us lv) :
    Calls Tryz.prog 83 #[lv] wr fun e w' => e = .returned (.tuple #[]) ∧ ConSl w' (fun q => B ≤ q ∧ q < w'.heap.size) lv ys.reverse ∧ Below B wr w' := by
  have hlow := h.low
  have hc := h.row
  rcases h.row.2 with ⟨rfl, h0⟩ | ⟨g, cap, cur, rfl, hbg, hg, hnc, hcm, hcs, htake⟩
  · obtain rfl : ys = [] := List.eq_nil_of_length_eq_zero h0
    refine (reverse_nil wr).mono ?_
    rintro e w' ⟨rfl, rfl⟩
    exact ⟨rfl, ⟨none, 0, rfl, Nat.le_refl _, Nat.zero_le _, fun _ => rfl, .inl rfl⟩, Below.refl _ _⟩
  · have hgl := (hlow g rfl)
    have hE : Elems wr (fun q => (False ∨ (B ≤ q ∧ q < wr.heap.size)) ∧ (Value.slice (some ⟨g, 0, none⟩) ys.length cap).ownBlock ≠ some q) g cap ys := ⟨⟨cur, hg, hcs, hnc, fun j hj => by
      obtain ⟨x, ⟨x0, x1, x2, x3, x4, x5, rfl, c0, c1, c2, c3, c4, c5⟩, hv⟩ := h.kids.2.2 j hj
      have each : ∀ (i : Nat) (u : Value), us.toArray[i]? = some u → cur[i]? = some u := by
        intro i u hu
        rw [← htake] at hu
        simp only [List.getElem?_toArray] at hu
        rw [List.getElem?_take] at hu
        split at hu
        · simpa using hu
        · cases hu
      exact ⟨_, ⟨x0, x1, x2, x3, x4, x5, rfl, each _ _ c0, each _ _ c1, each _ _ c2, each _ _ c3, each _ _ c4, each _ _ c5⟩, hv⟩⟩⟩
    refine (reverse_any _ ys wr g cap ys.length rfl hE hcm (fun q hq => ⟨by rcases hq.1 with h | h; exact h.elim; exact h.2, fun e => hq.2 (by rw [e]; rfl)⟩)).mono ?_
    rintro e w' ⟨rfl, hE2, hon⟩
    have hb : Below B wr w' := (Below.refl B wr).grown hon hB (fun j hj => by injection hj with hj; subst hj; exact hgl.1)
    refine ⟨rfl, ?_, hb⟩
    have := hE2.cons (S := fun q => B ≤ q ∧ q < w'.heap.size) (fun q hq => by rcases hq.1 with h | h; exact h.elim; exact ⟨h.1, Nat.lt_of_lt_of_le h.2 hon.size⟩) ⟨hgl.1, Nat.lt_of_lt_of_le hgl.2 hon.size⟩ hcm
    rw [List.length_reverse] at this
    exact this
end Go.Proofs.YtpkgiemdnfbopaaGreat
namespace Go.Proofs.YtpkgiemdnfbopaaGreat
open Go Go.RowKit
open Pl (K Con)
set_option linter.unusedSimpArgs false
set_option linter.unusedVariables false

/-- what Spine answers -/
def SpineP (t : Con) (w : World) (e : Ending) (w' : World) : Prop :=
  (∃ y z, ((e = .returned (.tuple #[y, z, .int .i64 1]) ∧ Con.validB t = false ∧ ConV w' (· < w'.heap.size) Con.none0 y ∧ ConSl w' (· < w'.heap.size) z []) ∨
    (e = .returned (.tuple #[y, z, .int .i64 0]) ∧ Con.validB t = true ∧ ∃ h l, Spn t h l ∧ ConV w' (· < w'.heap.size) h y ∧ ConSl w' (· < w'.heap.size) z l))) ∧ Below w.heap.size w w'
theorem consSl_nil9 (w : World) (P : Nat → Prop) : ConSl w P (.slice none 0 0) [] := ⟨none, 0, rfl, Nat.le_refl _, Nat.zero_le _, fun _ => rfl, .inl rfl⟩
/-- what a round of the loop finds -/
structure SpB (t : Con) (w : World) (B : Nat) (x : Con) (ys : List Con) (us : List Value) (ka : Option Addr) (kn kc : Nat) (na : Option Addr) (nn nc : Nat) (la : Option Addr) (ln lc : Nat) (lv : Value) (wr : World) : Prop where
  valid : Con.validB x = true
  room : x.size + ys.length ≤ 20001
  con : ConV wr (· < w.heap.size) x (.agg #[.int .i64 x.op, .int .i64 x.n, .string x.s, .slice ka kn kc, .slice na nn nc, .slice la ln lc])
  box : Blk wr w.heap.size 28 #[.int .i64 x.op, .int .i64 x.n, .string x.s, .slice ka kn kc, .slice na nn nc, .slice la ln lc]
  res : Blk wr (w.heap.size + 1) 28 #[.int .i64 0, .int .i64 0, .string ⟨#[]⟩, .slice none 0 0, .slice none 0 0, .slice none 0 0]
  row : CB (fun _ => False) B wr ys us lv
  spn : ∀ h l, Spn x h l → Spn t h (l ++ ys.reverse)
  bel : Below w.heap.size w wr
  low : w.heap.size + 2 ≤ B
  big : B ≤ wr.heap.size
theorem valid_size9 (t : Con) (h : Con.validB t = true) : t.size ≤ 20000 := by
  unfold Con.validB Con.small at h
  rw [Bool.and_eq_true, Bool.and_eq_true, decide_eq_true_eq] at h
  exact h.1.1
theorem outB_valid9 (t : Con) (h : Con.validB t = true) : outB t = (t, 0) := by
  rcases outB_cases t with ⟨_, e⟩ | ⟨h2, _⟩
  · exact e
  · rw [h] at h2; cases h2
set_option maxRecDepth 100000 in
set_option maxHeartbeats 4000000 in
theorem cspine_any (t : Con) (w : World) (v : Value) (ht : ConV w (· < w.heap.size) t v) :
    Calls Tryz.prog 31 #[v] w (SpineP t w) := by
  have HV := Lib.hid (fun W (hW : Below w.heap.size w W) => cvalid_any (· < w.heap.size) t W v (fun q hq => Nat.lt_of_lt_of_le hq hW.size) (ht.keep (Same.of_below hW (fun _ h => h))))
  have HT := Lib.hid (fun W (hW : Below w.heap.size w W) => (ht.keep (Same.of_below hW (fun _ h => h))))
  obtain ⟨ka, kn, kc, na, nn, nc, la, ln, lc, rfl, -, -, -⟩ := ht.shape
  obtain ⟨hbx, hbx2, hb⟩ := twoN_new w 28 28 #[.int .i64 t.op, .int .i64 t.n, .string t.s, .slice ka kn kc, .slice na nn nc, .slice la ln lc] #[.int .i64 0, .int .i64 0, .string ⟨#[]⟩, .slice none 0 0, .slice none 0 0, .slice none 0 0]
  have HBX := Lib.hid hbx
  have HZ := Lib.hid hbx2
  have HB := Lib.hid hb
  clear hbx hbx2 hb ht
  go_enter Tryz.func31, Tryz.ntmps31
  go_upto_region 1 with fail
  generalize (w.alloc (.cells #[.int .i64 t.op, .int .i64 t.n, .string t.s, .slice ka kn kc, .slice na nn nc, .slice la ln lc] 28)).alloc (.cells #[.int .i64 0, .int .i64 0, .string ⟨#[]⟩, .slice none 0 0, .slice none 0 0, .slice none 0 0] 28) = w1 at *
  have c0 := HBX.out.cell 0 (.int .i64 t.op) rfl
  have c1 := HBX.out.cell 1 (.int .i64 t.n) rfl
  have c2 := HBX.out.cell 2 (.string t.s) rfl
  have c3 := HBX.out.cell 3 (.slice ka kn kc) rfl
  have c4 := HBX.out.cell 4 (.slice na nn nc) rfl
  have c5 := HBX.out.cell 5 (.slice la ln lc) rfl
  go_wp2_with fail
  clear c0 c1 c2 c3 c4 c5
  refine (HV.out _ HB.out).mono ?_
  rintro e w2 ⟨rfl, h2⟩
  replace HBX := Lib.hid (HBX.out.of_eq (h2.block _ HBX.out.lt))
  replace HZ := Lib.hid (HZ.out.of_eq (h2.block _ HZ.out.lt))
  replace HB := Lib.hid (belowStep h2 HB.out)
  clear h2
  cases hv : Con.validB t
  · have HVF := Lib.hid hv
    rw [hv] at HV
    clear hv
    have hzz := HZ.out
    have hz := store6_blk hzz 0 (.int .i64 0) (.int .i64 0) (.string ⟨#[]⟩) (.slice none 0 0) (.slice none 0 0) (.slice none 0 0)
    rw [put6_all] at hz
    have HE := Lib.hid (show SpineP t w (.returned (.tuple #[.agg #[.int .i64 0, .int .i64 0, .string ⟨#[]⟩, .slice none 0 0, .slice none 0 0, .slice none 0 0], .slice none 0 0, .int .i64 1])) (store6 w2 (w.heap.size + 1) 0 (.int .i64 0) (.int .i64 0) (.string ⟨#[]⟩) (.slice none 0 0) (.slice none 0 0) (.slice none 0 0)) from ⟨⟨_, _, .inl ⟨rfl, HVF.out, conV_none _ _, consSl_nil9 _ _⟩⟩, store6_below HB.out _ _ _ _ _ _ _ _ (by omega)⟩)
    unfold store6 at hz HE
    simp only [Nat.zero_add] at hz HE
    have z0 := hz.cell 0 (.int .i64 0) rfl
    have z1 := hz.cell 1 (.int .i64 0) rfl
    have z2 := hz.cell 2 (.string ⟨#[]⟩) rfl
    have z3 := hz.cell 3 (.slice none 0 0) rfl
    have z4 := hz.cell 4 (.slice none 0 0) rfl
    have z5 := hz.cell 5 (.slice none 0 0) rfl
    have r0 := hzz.cell 0 (.int .i64 0) rfl
    have r1 := hzz.cell 1 (.int .i64 0) rfl
    have r2 := hzz.cell 2 (.string ⟨#[]⟩) rfl
    have r3 := hzz.cell 3 (.slice none 0 0) rfl
    have r4 := hzz.cell 4 (.slice none 0 0) rfl
    have r5 := hzz.cell 5 (.slice none 0 0) rfl
    have t0 := hzz.thaw 0
    have t1 := hzz.thaw 1
    have t2 := hzz.thaw 2
    have t3 := hzz.thaw 3
    have t4 := hzz.thaw 4
    have t5 := hzz.thaw 5
    clear hz hzz HZ HV HT HBX HVF
    go_wp2
    refine bodyPost_ret (v := .tuple #[.agg #[.int .i64 0, .int .i64 0, .string ⟨#[]⟩, .slice none 0 0, .slice none 0 0, .slice none 0 0], .slice none 0 0, .int .i64 1]) (by simp [results, Tryz.results31, go_sem, z0, z1, z2, z3, z4, z5]) rfl ?_
    exact HE.out
  have HVT := Lib.hid hv
  rw [hv] at HV
  clear hv HV
  have HSP0 := Lib.hid (show SpB t w w2.heap.size t [] [] ka kn kc na nn nc la ln lc (.slice none 0 0) w2 from ⟨HVT.out, by have := valid_size9 t HVT.out; simp; omega, HT.out _ HB.out, HBX.out, HZ.out, CB.nil _ _ _, fun h l p => by simpa using p, HB.out, by have := HZ.out.lt; omega, Nat.le_refl _⟩)
  obtain ⟨iC, ci0, ci1, ci2, ci3⟩ := info_parts infoCon
  clear HBX HZ HB HT
  generalize w2.heap.size = B at *
  go_wp2_with fail
  go_loopg [5] t.size (fun gk lv wr => ∃ (x : Con) (ys : List Con) (us : List Value) (ka : Option Addr) (kn kc : Nat) (na : Option Addr) (nn nc : Nat) (la : Option Addr) (ln lc : Nat), gk = x.size ∧ SpB t w B x ys us ka kn kc na nn nc la ln lc lv wr)
  case atStart => exact ⟨t, [], [], ka, kn, kc, na, nn, nc, la, ln, lc, rfl, HSP0.out⟩
  case round =>
    obtain ⟨x, ys, us, ka, kn, kc, na, nn, nc, la, ln, lc, hgk, hsp⟩ := hrel
    have HSP := Lib.hid hsp
    clear HSP0
    have HBX := Lib.hid hsp.box
    have HCV := Lib.hid hsp.con
    have hgk' := Lib.hid hgk
    clear hgk
    have c0 := HBX.out.cell 0 (.int .i64 x.op) rfl
    have c1 := HBX.out.cell 1 (.int .i64 x.n) rfl
    have c2 := HBX.out.cell 2 (.string x.s) rfl
    have c3 := HBX.out.cell 3 (.slice ka kn kc) rfl
    have c4 := HBX.out.cell 4 (.slice na nn nc) rfl
    have c5 := HBX.out.cell 5 (.slice la ln lc) rfl
    by_cases h12 : x.op = 12
    · have q16 : (x.op == 12) = true := by rw [h12]; rfl
      obtain ⟨f, a, hfa⟩ := app_parts x (by have := valid_all x hsp.valid; rw [allB_eq, Bool.and_eq_true] at this; exact this.1) h12
      have hls := con_list hsp.con
      rw [hfa] at hls
      obtain ⟨b, off, c', aka, akn, akc, ana, ann, anc, ala, aln, alc, e, hbP, g0, g1, g2, g3, g4, g5, hca⟩ := hls.part 1 (by simp)
      obtain ⟨b', off', c2, fka, fkn, fkc, fna, fnn, fnc, fla, fln, flc, e', -, k0, k1, k2, k3, k4, k5, hcf⟩ := hls.part 0 (by simp)
      rw [e] at e'
      injection e' with e1 e2 e3
      injection e1 with e1
      injection e1 with e1 e1'
      subst e1 e1' e3
      injection e with e1 e2 e3
      subst e1 e2 e3
      simp only [List.getElem_cons_succ, List.getElem_cons_zero, Nat.zero_mul, Nat.one_mul, Nat.add_zero] at g0 g1 g2 g3 g4 g5 hca k0 k1 k2 k3 k4 k5 hcf
      have hva : Con.validB a = true := part_valid x a hsp.valid (by rw [hfa]; simp)
      have hvf : Con.validB f = true := part_valid x f hsp.valid (by rw [hfa]; simp)
      have HSZ := Lib.hid (show x.size = 1 + (f.size + a.size) from by rw [Con.size_eq, hfa, Con.sizes_cons, Con.sizes_cons, Con.sizes_nil]; omega)
      have HVF := Lib.hid hvf
      have HSPN := Lib.hid (fun h l (p : Spn f h l) => (show Spn t h (l ++ (ys ++ [a]).reverse) from by
        have := hsp.spn h (l ++ [a]) (Spn.app x f a h l h12 hfa p)
        simpa [List.append_assoc] using this))
      have HCP := Lib.hid (ccopy_any a wr _ (hca.mono (fun q hq => Nat.lt_of_lt_of_le hq hsp.bel.size)) (valid_all a hva))
      rw [outB_valid9 a hva] at HCP
      have HCF := Lib.hid hcf
      have HLX := Lib.hid (show b < w.heap.size from hbP)
      have hpos := Con.size_pos a
      have HAP := Lib.hid (Con.size_pos a)
      clear hva hvf hca hcf hls hsp hfa hbP hpos h12
      generalize x.op = xo at *
      generalize x.n = xn at *
      generalize x.s = xs at *
      go_wp2_with fail
      clear g0 g1 g2 g3 g4 g5
      refine HCP.out.mono ?_
      rintro e w7 ⟨⟨y, rfl, hy⟩, hb7⟩
      obtain ⟨yka, ykn, ykc, yna, ynn, ync, yla, yln, ylc, rfl, -, -, -⟩ := hy.shape
      clear c0 c1 c2 c3 c4 c5 HCP
      obtain ⟨hbx6, hb6⟩ := boxN_new w7 28 #[.int .i64 a.op, .int .i64 a.n, .string a.s, .slice yka ykn ykc, .slice yna ynn ync, .slice yla yln ylc]
      have HN6 := Lib.hid (boxN_new (w7.alloc (.cells #[.int .i64 a.op, .int .i64 a.n, .string a.s, .slice yka ykn ykc, .slice yna ynn ync, .slice yla yln ylc] 28)) 28 #[.int .i64 a.op, .int .i64 a.n, .string a.s, .slice yka ykn ykc, .slice yna ynn ync, .slice yla yln ylc]).1
      have HROW := Lib.hid ((HSP.out.row.below (fun _ h => h.elim) hb7).below (fun _ h => h.elim) hb6)
      obtain ⟨sa, sc, hsv⟩ := row_form6 HROW.out.row
      subst hsv
      have HYB := Lib.hid (hy.keep (Same.of_below hb6 (fun q hq => hq.2)))
      have HBB := Lib.hid (belowStep hb6 hb7)
      have H6B := Lib.hid hbx6
      have HW7 := Lib.hid (show wr.heap.size ≤ w7.heap.size from hb7.size)
      obtain ⟨yl, hyl⟩ : ∃ k, k = ys.length := ⟨_, rfl⟩
      have HYN := Lib.hid hyl
      have hroom : yl ≤ 20000 := by have := HSP.out.room; have := HSZ.out; rw [hyl]; omega
      have hrw := HROW.out.row
      rw [← hyl] at HROW hrw ⊢
      have HRW := Lib.hid hrw
      have HS7 := Lib.hid (size_alloc w7 (.cells #[.int .i64 a.op, .int .i64 a.n, .string a.s, .slice yka ykn ykc, .slice yna ynn ync, .slice yla yln ylc] 28))
      clear hb7 hb6 hbx6 hrw hyl
      have HAE := Lib.hid (rfl : a = a)
      clear HAE
      go_upto_region 6 with fail
      generalize w7.alloc (.cells #[.int .i64 a.op, .int .i64 a.n, .string a.s, .slice yka ykn ykc, .slice yna ynn ync, .slice yla yln ylc] 28) = w8 at *
      have d0 := H6B.out.cell 0 (.int .i64 a.op) rfl
      have d1 := H6B.out.cell 1 (.int .i64 a.n) rfl
      have d2 := H6B.out.cell 2 (.string a.s) rfl
      have d3 := H6B.out.cell 3 (.slice yka ykn ykc) rfl
      have d4 := H6B.out.cell 4 (.slice yna ynn ync) rfl
      have d5 := H6B.out.cell 5 (.slice yla yln ylc) rfl
      have HNEW := Lib.hid (show ∀ j u, [.int .i64 a.op, .int .i64 a.n, .string a.s, .slice yka ykn ykc, .slice yna ynn ync, .slice yla yln ylc][j]? = some u → (w8.alloc (.cells #[.int .i64 a.op, .int .i64 a.n, .string a.s, .slice yka ykn ykc, .slice yna ynn ync, .slice yla yln ylc] 28)).cell? ((⟨w8.heap.size, 0, none⟩ : Addr).add j) = some u from World.news_of_block (cs := #[.int .i64 a.op, .int .i64 a.n, .string a.s, .slice yka ykn ykc, .slice yna ynn ync, .slice yla yln ylc]) (t := 28) (fr := (0, 0)) (boxN_new w8 28 #[.int .i64 a.op, .int .i64 a.n, .string a.s, .slice yka ykn ykc, .slice yna ynn ync, .slice yla yln ylc]).1)
      go_wp2_with (at_builtin; refine wpList_append_lies _ rfl _ _ 26 rfl B 28 iC (.agg #[.int .i64 0, .int .i64 0, .string ByteArray.empty, .slice none 0 0, .slice none 0 0, .slice none 0 0]) 6 104 Tryz.underlying26 ci0 ci1 ci2 ci3 rfl (by decide) _ _ _ rfl (HRW.out.alloc _) ⟨w8.heap.size, 0, none⟩ 1 1 [.int .i64 a.op, .int .i64 a.n, .string a.s, .slice yka ykn ykc, .slice yna ynn ync, .slice yla yln ylc] rfl rfl ?c1 ?c2 (by decide) ?c3 ?c4 ?c5 (w8.heap.size + 1) (by simp) ?_)
      case c1 => exact HNEW.out
      case c2 => simp [Value.oneCell']
      case c3 => unfold maxLen; omega
      case c4 => omega
      case c5 => have h1 := HSP.out.big; have h2 := HBB.out.size; simp; omega
      intro gg cap w9 hown hgrow hat hlt
      have hlow := HROW.out.low
      have HCB2 := Lib.hid (HROW.out.push HYN.out (fun _ h => h.elim) HYB.out (fun q hq => ⟨.inr ⟨by have h1 := hq.1; have h2 := HSP.out.big; omega, by have h1 := hq.2; have h2 := HS7.out; omega⟩, fun e => by
        have h1 := (HSP.out.row.low q (by rw [HYN.out] at e; exact e)).2
        have h2 := hq.1
        omega⟩) hown hgrow hat)
      have hblk := fun (q : Nat) (hq : q < w.heap.size + 2) => (show w9.heap[q]? = wr.heap[q]? from by
        have hqs : q < wr.heap.size := by have h1 := HSP.out.low; have h2 := HSP.out.big; omega
        refine (hgrow.block q (by rw [size_alloc]; have := HBB.out.size; omega) (fun e => by have h1 := (hlow q e.symm).1; have h2 := HSP.out.low; omega)).trans ((Below.heap_alloc w8 _ q (by have := HBB.out.size; omega)).trans (HBB.out.block q hqs)))
      have HBX9 := Lib.hid (HBX.out.of_eq (hblk w.heap.size (by omega)))
      have HZ9 := Lib.hid (HSP.out.res.of_eq (hblk (w.heap.size + 1) (by omega)))
      have HB9 := Lib.hid (((belowStep HBB.out HSP.out.bel).alloc (by have := HBB.out.size; have := HSP.out.bel.size; omega) (.cells #[.int .i64 a.op, .int .i64 a.n, .string a.s, .slice yka ykn ykc, .slice yna ynn ync, .slice yla yln ylc] 28)).grown hgrow (by rw [size_alloc]; have := HBB.out.size; have := HSP.out.bel.size; omega) (fun j hj => by have h1 := (hlow j hj).1; have h2 := HSP.out.low; omega))
      have HSAME := Lib.hid (fun q (hq : q < w.heap.size) => hblk q (by omega))
      have HG9 := Lib.hid (show B ≤ w9.heap.size from by have h1 := HSP.out.big; have h2 := HBB.out.size; have h3 := hgrow.size; rw [size_alloc] at h3; omega)
      clear hown hgrow hat hlt hlow hblk d0 d1 d2 d3 d4 d5 HNEW H6B HN6 HRW
      have hcl := HSAME.out b HLX.out
      replace k0 := (cell_same hcl).trans k0
      replace k1 := (cell_same hcl).trans k1
      replace k2 := (cell_same hcl).trans k2
      replace k3 := (cell_same hcl).trans k3
      replace k4 := (cell_same hcl).trans k4
      replace k5 := (cell_same hcl).trans k5
      clear hcl
      have c0 := HBX9.out.cell 0 (.int .i64 xo) rfl
      have c1 := HBX9.out.cell 1 (.int .i64 xn) rfl
      have c2 := HBX9.out.cell 2 (.string xs) rfl
      have c3 := HBX9.out.cell 3 (.slice ka kn kc) rfl
      have c4 := HBX9.out.cell 4 (.slice na nn nc) rfl
      have c5 := HBX9.out.cell 5 (.slice (some ⟨b, off, none⟩) [f, a].length lc) rfl
      have t0 := HBX9.out.thaw 0
      have t1 := HBX9.out.thaw 1
      have t2 := HBX9.out.thaw 2
      have t3 := HBX9.out.thaw 3
      have t4 := HBX9.out.thaw 4
      have t5 := HBX9.out.thaw 5
      have hz := store6_blk HBX9.out 0 (.int .i64 f.op) (.int .i64 f.n) (.string f.s) (.slice fka fkn fkc) (.slice fna fnn fnc) (.slice fla fln flc)
      rw [put6_all] at hz
      have HE := Lib.hid (show SpB t w B f (ys ++ [a]) (us ++ [.int .i64 a.op, .int .i64 a.n, .string a.s, .slice yka ykn ykc, .slice yna ynn ync, .slice yla yln ylc]) fka fkn fkc fna fnn fnc fla fln flc (.slice (some ⟨gg, 0, none⟩) (yl + 1) cap) (store6 w9 w.heap.size 0 (.int .i64 f.op) (.int .i64 f.n) (.string f.s) (.slice fka fkn fkc) (.slice fna fnn fnc) (.slice fla fln flc)) from by
        have hon := store6_only (Only.refl w.heap.size w9) w.heap.size 0 (.int .i64 f.op) (.int .i64 f.n) (.string f.s) (.slice fka fkn fkc) (.slice fna fnn fnc) (.slice fla fln flc) (.inl rfl)
        have hoth : ∀ q, q ≠ w.heap.size → q < w9.heap.size → _ := fun q h1 h2 => World.grownBy.block hon q h2 (fun e => by injection e with e; exact h1 e)
        refine ⟨HVF.out, by rw [List.length_append]; have h1 := HSP.out.room; have h2 := HSZ.out; have h3 := HAP.out; simp; omega, ?_, hz, HZ9.out.of_eq (hoth _ (by omega) HZ9.out.lt), ?_, HSPN.out, store6_below HB9.out _ _ _ _ _ _ _ _ (Nat.le_refl _), HSP.out.low, by rw [store6_size]; exact HG9.out⟩
        · exact (HCF.out.keep (fun q hq => HSAME.out q hq)).keep (fun q hq => hoth q (by have hq : q < w.heap.size := hq; omega) (by have hq : q < w.heap.size := hq; have := HB9.out.size; omega))
        · have hc := HCB2.out
          refine ⟨hc.row.kept hon (.inr (fun e => ?_)), (hc.kids.keep (fun q hq => hoth q ?_ ?_)).mono (fun q hq => ⟨?_, hq.2⟩)⟩
          · have h1 := (hc.low _ e).1; have h2 := HSP.out.low; omega
          · have := HSP.out.low; rcases hq.1 with h | h; exact h.elim; omega
          · rcases hq.1 with h | h; exact h.elim; exact h.2
          · rcases hq.1 with h | h; exact .inl h; exact .inr ⟨h.1, by rw [store6_size]; exact h.2⟩)
      unfold store6 at hz HE
      simp only [Nat.zero_add] at hz HE
      clear hz
      have hpa := HAP.out
      have hsz := HSZ.out
      have hg2 := hgk'.out
      go_wp2
      go_roundg f.size
      case measure => omega
      case rel => exact ⟨f, ys ++ [a], _, fka, fkn, fkc, fna, fnn, fnc, fla, fln, flc, rfl, HE.out⟩
    have q16 : (x.op == 12) = false := beq_eq_false_iff_ne.2 h12
    have HFIN := Lib.hid (show Spn t x ys.reverse from by have := hsp.spn x [] (Spn.base x h12); simpa using this)
    have HRV := Lib.hid (reverseCB B wr ys us u5 hsp.big hsp.row)
    have HVX := Lib.hid hsp.valid
    have HRES := Lib.hid hsp.res
    have HBL := Lib.hid hsp.bel
    have HLO := Lib.hid hsp.low
    have HBG := Lib.hid hsp.big
    clear hsp HSP h12 hgk'
    go_wp2_with fail
    clear c0 c1 c2 c3 c4 c5
    refine HRV.out.mono ?_
    rintro e w5 ⟨rfl, hsl, hb5⟩
    have hlt2 : ∀ q, q < w.heap.size + 2 → q < B := fun q hq => by have := HLO.out; omega
    have HSL := Lib.hid hsl
    have HCV5 := Lib.hid (HCV.out.keep (fun q (hq : q < w.heap.size) => hb5.block q (hlt2 q (by omega))))
    replace HBX := Lib.hid (HBX.out.of_eq (hb5.block _ (hlt2 _ (by omega))))
    replace HRES := Lib.hid (HRES.out.of_eq (hb5.block _ (hlt2 _ (by omega))))
    have HB5 := Lib.hid (HBL.out.trans (hb5.mono (by have := HLO.out; omega)))
    have HG5 := Lib.hid (show B ≤ w5.heap.size from Nat.le_trans HBG.out hb5.size)
    clear hsl hb5 HRV HCV HBL HBG
    have c0 := HBX.out.cell 0 (.int .i64 x.op) rfl
    have c1 := HBX.out.cell 1 (.int .i64 x.n) rfl
    have c2 := HBX.out.cell 2 (.string x.s) rfl
    have c3 := HBX.out.cell 3 (.slice ka kn kc) rfl
    have c4 := HBX.out.cell 4 (.slice na nn nc) rfl
    have c5 := HBX.out.cell 5 (.slice la ln lc) rfl
    have HCP := Lib.hid (ccopy_any x w5 _ (HCV5.out.mono (fun q hq => Nat.lt_of_lt_of_le hq HB5.out.size)) (valid_all x HVX.out))
    rw [outB_valid9 x HVX.out] at HCP
    go_wp2_with fail
    clear c0 c1 c2 c3 c4 c5
    refine HCP.out.mono ?_
    rintro e w6 ⟨⟨y, rfl, hy⟩, hb6⟩
    obtain ⟨yka, ykn, ykc, yna, ynn, ync, yla, yln, ylc, rfl, -, -, -⟩ := hy.shape
    obtain ⟨hbx7, hb7⟩ := boxN_new w6 28 #[.int .i64 x.op, .int .i64 x.n, .string x.s, .slice yka ykn ykc, .slice yna ynn ync, .slice yla yln ylc]
    have hb67 := belowStep hb7 hb6
    have HY := Lib.hid (hy.keep (Same.of_below hb7 (fun q hq => hq.2)))
    have H7B := Lib.hid hbx7
    have HB7 := Lib.hid (belowStep hb67 HB5.out)
    have HSL7 := Lib.hid (HSL.out.keep (Same.of_below hb67 (fun q hq => hq.2)))
    have HRES7 := Lib.hid (HRES.out.of_eq (hb67.block _ HRES.out.lt))
    have HS67 := Lib.hid (show w5.heap.size ≤ w6.heap.size from hb6.size)
    have HS7 := Lib.hid (size_alloc w6 (.cells #[.int .i64 x.op, .int .i64 x.n, .string x.s, .slice yka ykn ykc, .slice yna ynn ync, .slice yla yln ylc] 28))
    clear hbx7 hb7 hb6 hb67 hy HCP HSL HRES HBX
    go_upto_region 10 with fail
    generalize w6.alloc (.cells #[.int .i64 x.op, .int .i64 x.n, .string x.s, .slice yka ykn ykc, .slice yna ynn ync, .slice yla yln ylc] 28) = w7 at *
    have d0 := H7B.out.cell 0 (.int .i64 x.op) rfl
    have d1 := H7B.out.cell 1 (.int .i64 x.n) rfl
    have d2 := H7B.out.cell 2 (.string x.s) rfl
    have d3 := H7B.out.cell 3 (.slice yka ykn ykc) rfl
    have d4 := H7B.out.cell 4 (.slice yna ynn ync) rfl
    have d5 := H7B.out.cell 5 (.slice yla yln ylc) rfl
    have hzz := HRES7.out
    have hz := store6_blk hzz 0 (.int .i64 x.op) (.int .i64 x.n) (.string x.s) (.slice yka ykn ykc) (.slice yna ynn ync) (.slice yla yln ylc)
    rw [put6_all] at hz
    have HE := Lib.hid (show SpineP t w (.returned (.tuple #[.agg #[.int .i64 x.op, .int .i64 x.n, .string x.s, .slice yka ykn ykc, .slice yna ynn ync, .slice yla yln ylc], u5, .int .i64 0])) (store6 w7 (w.heap.size + 1) 0 (.int .i64 x.op) (.int .i64 x.n) (.string x.s) (.slice yka ykn ykc) (.slice yna ynn ync) (.slice yla yln ylc)) from by
      have hon := store6_only (Only.refl (w.heap.size + 1) w7) (w.heap.size + 1) 0 (.int .i64 x.op) (.int .i64 x.n) (.string x.s) (.slice yka ykn ykc) (.slice yna ynn ync) (.slice yla yln ylc) (.inl rfl)
      have hoth : ∀ q, q ≠ w.heap.size + 1 → q < w7.heap.size → _ := fun q h1 h2 => World.grownBy.block hon q h2 (fun e => by injection e with e; exact h1 e)
      refine ⟨⟨_, _, .inr ⟨rfl, HVT.out, x, ys.reverse, HFIN.out, ?_, ?_⟩⟩, store6_below HB7.out _ _ _ _ _ _ _ _ (by omega)⟩
      · refine (HY.out.keep (fun q hq => hoth q (by have h1 := hq.1; have h2 := HG5.out; have h3 := HLO.out; omega) (by have h1 := hq.2; have h2 := HS7.out; omega))).mono (fun q hq => ?_)
        have h1 := hq.2
        have h2 := HS7.out
        rw [store6_size]
        omega
      · refine (HSL7.out.keep (fun q hq => hoth q (by have h1 := hq.1; have h3 := HLO.out; omega) (by have h1 := hq.2; have h2 := HS7.out; have h3 := HS67.out; omega))).mono (fun q hq => ?_)
        have h1 := hq.2
        have h2 := HS7.out
        have h3 := HS67.out
        rw [store6_size]
        omega)
    unfold store6 at hz HE
    simp only [Nat.zero_add] at hz HE
    have z0 := hz.cell 0 (.int .i64 x.op) rfl
    have z1 := hz.cell 1 (.int .i64 x.n) rfl
    have z2 := hz.cell 2 (.string x.s) rfl
    have z3 := hz.cell 3 (.slice yka ykn ykc) rfl
    have z4 := hz.cell 4 (.slice yna ynn ync) rfl
    have z5 := hz.cell 5 (.slice yla yln ylc) rfl
    have r0 := hzz.cell 0 (.int .i64 0) rfl
    have r1 := hzz.cell 1 (.int .i64 0) rfl
    have r2 := hzz.cell 2 (.string ⟨#[]⟩) rfl
    have r3 := hzz.cell 3 (.slice none 0 0) rfl
    have r4 := hzz.cell 4 (.slice none 0 0) rfl
    have r5 := hzz.cell 5 (.slice none 0 0) rfl
    have t0 := hzz.thaw 0
    have t1 := hzz.thaw 1
    have t2 := hzz.thaw 2
    have t3 := hzz.thaw 3
    have t4 := hzz.thaw 4
    have t5 := hzz.thaw 5
    clear hz hzz
    go_wp2
    refine bodyPost_ret (v := .tuple #[.agg #[.int .i64 x.op, .int .i64 x.n, .string x.s, .slice yka ykn ykc, .slice yna ynn ync, .slice yla yln ylc], u5, .int .i64 0]) (by simp [results, Tryz.results31, go_sem, z0, z1, z2, z3, z4, z5]) rfl ?_
    exact HE.out
end Go.Proofs.YtpkgiemdnfbopaaGreat
namespace Go.Proofs
open Go.Shelf
def Tryz.growC_ren : Go.Shelf.Ren := ⟨fun | 4 => 86 | n => n, fun | 22 => 26 | 25 => 28 | 3 => 3 | 4 => 4 | 9 => 9 | 20 => 20 | 0 => 0 | n => n, fun | n => n⟩
theorem Tryz.growC : Go.Proofs.Lays8.n4 Tryz.prog Tryz.growC_ren := {
  mixed := by kernel_rfl
  f4 := Exists.intro "slices.Grow[[]pilaster/api.Con,pilaster/api.Con]" ⟨by decide, Tryz.func86.trans (congrArg some (by kernel_rfl))⟩
  t0 := Tryz.underlying0
  a0 := Tryz.isAgg0
  z0 := Tryz.sizeOf0
  v0 := Tryz.zeroValue0
  t3 := Tryz.underlying3
  a3 := Tryz.isAgg3
  z3 := Tryz.sizeOf3
  v3 := Tryz.zeroValue3
  t4 := Tryz.underlying4
  a4 := Tryz.isAgg4
  z4 := Tryz.sizeOf4
  v4 := Tryz.zeroValue4
  t9 := Tryz.underlying9
  a9 := Tryz.isAgg9
  z9 := Tryz.sizeOf9
  v9 := Tryz.zeroValue9
  t20 := Tryz.underlying20
  a20 := Tryz.isAgg20
  z20 := Tryz.sizeOf20
  v20 := Tryz.zeroValue20
  t22 := Tryz.underlying26
  a22 := Tryz.isAgg26
  z22 := Tryz.sizeOf26
  v22 := Tryz.zeroValue26
}
end Go.Proofs
namespace Go.Proofs.YtpkgiemdnfbopaaGreat
open Go Go.RowKit
open Pl (K Con)
set_option linter.unusedSimpArgs false
theorem growC_none (w : World) :
    Calls Tryz.prog 86 #[.slice none 0 0, .int .i64 0] w fun e w' => e = .returned (.slice none 0 0) ∧ w' = w :=
  Any8.slices_Grow_room Tryz.growC none 0 0 0 w (by omega) (by omega) (by omega) (by omega)
theorem growC_any (n : Nat) (w : World) (hn : n ≤ 100000) :
    Calls Tryz.prog 86 #[.slice none 0 0, .int .i64 n] w fun e w' => (∃ v, e = .returned v ∧ w'.ownsRow w.heap.size 28 6 v 0 []) ∧ Below w.heap.size w w' := by
  by_cases h : n = 0
  · subst h
    refine (growC_none w).mono ?_
    rintro e w' ⟨rfl, rfl⟩
    exact ⟨⟨_, rfl, World.ownsRow_nil _ _ _ _⟩, Below.refl _ _⟩
  obtain ⟨i9, hi, hz0, hz1, hz2⟩ := info_parts infoCon
  refine (Any8.slices_Grow_grow Tryz.growC i9 (.agg #[.int .i64 0, .int .i64 0, .string ByteArray.empty, .slice none 0 0, .slice none 0 0, .slice none 0 0]) hi hz0 (by rw [hz1]; decide) none 0 0 n [] w (by omega) (by omega) (by rw [hz2]; omega) (by omega) (by simp) (fun _ => rfl) (fun a h => by cases h)).mono ?_
  rintro e w' ⟨rfl, rfl⟩
  have hG1 := grownCap_ge w (0 + n) 0 (Tryz.growC_ren.t 25)
  have hG2 := grownCap_le_maxLen w (0 + n) 0 (Tryz.growC_ren.t 25) (by unfold maxLen; omega)
  refine ⟨⟨_, rfl, rfl, .inr ⟨w.heap.size, _, _, rfl, Nat.le_refl _, blk_new w.drew _ _, Nat.zero_le _, hG2, ?_, by simp⟩⟩, ?_⟩
  · generalize grownCap w (0 + n) 0 (Tryz.growC_ren.t 25) = G at hG1 hG2 ⊢
    simp [size_zeroCells, Value.cells]
    omega
  · exact ((Below.refl _ _).drew).alloc (Nat.le_refl _) _
/-- appending nothing -/
theorem run_append_none9 {P : Program} (w : World) (t ty e : TypeId) (i : TypeInfo) (ht : P.underlying t = some (.slice e)) (hi : P.info? e = some i) (a : Option Addr) (n c : Nat) (hn : n ≤ c) :
    (Builtin.append_ #[t, t] ty #[.slice a n c, .slice none 0 0]).run P w = .ok (.slice a n c) w := by
  cases a <;> simp [Builtin.append_, run_underlying ht, sizeOf, typeInfo, hi, Builtin.lenOf, hn, run_firstCells_none, storeCells]
theorem wpList_append_none9 {P : Program} {w : World} {ops : Array Oper} {rest : List Oper} {o : Oper} {a : Act} {Q : Exit → Act → World → Prop} (hgd : o.guard = none) (s x : Operand) (t : TypeId)
    (ho : o.op = .call { callee := .builtin .append, args := #[s, x], argTypes := #[t, t] })
    (e : TypeId) (i : TypeInfo) (ht : P.underlying t = some (.slice e)) (hi : P.info? e = some i) (b : Option Addr) (n c : Nat) (hs : a.eval s = .slice b n c) (hx : a.eval x = .slice none 0 0) (hn : n ≤ c)
    (h : wpList P ops Q rest (a.put o.dst (.slice b n c)) w) : wpList P ops Q (o :: rest) a w := by
  refine wpList_plain hgd fun K hK => ?_
  have hr := run_append_none9 (P := P) w t o.type e i ht hi b n c hn
  unfold Oper.wp execOp
  simp only [ho, resolve, invoke, builtin, Sem.run_bind, Sem.run_pure, Result.andThen_ok, List.map_toArray, List.map_cons, List.map_nil, hs, hx, hr]
  exact hK _ _ h
/-- the values of a row -/
theorem ConSl.row {w : World} {P : Nat → Prop} {l : List Con} {v : Value} (h : ConSl w P v l) : ∃ a c, v = .slice a l.length c ∧ ((a = none ∧ c = 0 ∧ l = []) ∨ ∃ ad, a = some ad ∧ ∃ us, ConRow w P us l ∧ ∀ j u, us[j]? = some u → w.cell? (ad.add j) = some u) := by
  obtain ⟨a, c, rfl, h4, h5, h6, h7⟩ := h
  refine ⟨a, c, rfl, ?_⟩
  cases a with
  | none =>
    left
    have hc := h6 rfl
    exact ⟨rfl, hc, List.eq_nil_of_length_eq_zero (by omega)⟩
  | some ad =>
    right
    refine ⟨ad, rfl, ?_⟩
    rcases h7 with rfl | ⟨b, off, e, hb, hk⟩
    · exact ⟨[], ConRow.nil _ _, fun j u hu => by cases hu⟩
    · injection e with e
      subst e
      rw [consAt_iff] at hk
      obtain ⟨T, hT⟩ : ∃ T : Nat → Value, ∀ i, i < l.length * 6 → w.cell? ⟨b, off + i, none⟩ = some (T i) := by
        refine ⟨fun i => (w.cell? ⟨b, off + i, none⟩).getD (.int .i64 0), fun i hi => ?_⟩
        obtain ⟨x, ⟨x0, x1, x2, x3, x4, x5, -, c0, c1, c2, c3, c4, c5⟩, -⟩ := hk (i / 6) (by omega)
        have hd : i % 6 = 0 ∨ i % 6 = 1 ∨ i % 6 = 2 ∨ i % 6 = 3 ∨ i % 6 = 4 ∨ i % 6 = 5 := by omega
        have go : ∀ d y, i % 6 = d → w.cell? ⟨b, off + i / 6 * 6 + d, none⟩ = some y → w.cell? ⟨b, off + i, none⟩ = some ((w.cell? ⟨b, off + i, none⟩).getD (.int .i64 0)) := by
          intro d y h1 h2
          have e : off + i / 6 * 6 + d = off + i := by omega
          rw [e] at h2
          rw [h2]
          rfl
        rcases hd with h | h | h | h | h | h
        · exact go 0 _ h c0
        · exact go 1 _ h c1
        · exact go 2 _ h c2
        · exact go 3 _ h c3
        · exact go 4 _ h c4
        · exact go 5 _ h c5
      have hget : ∀ i, i < l.length * 6 → ((List.range (l.length * 6)).map T)[i]? = some (T i) := fun i hi => by simp [hi]
      have hadd : ∀ j, (⟨b, off, none⟩ : Addr).add j = ⟨b, off + j, none⟩ := fun j => by unfold Addr.add; split <;> simp_all
      have hpt : ∀ (j : Nat) (hj : j < l.length), ∃ x, ConIn ((List.range (l.length * 6)).map T).toArray (j * 6) x ∧ ConV w P l[j] x := by
        intro j hj
        obtain ⟨x, ⟨x0, x1, x2, x3, x4, x5, rfl, c0, c1, c2, c3, c4, c5⟩, hv⟩ := hk j hj
        have go : ∀ d y, d < 6 → w.cell? ⟨b, off + j * 6 + d, none⟩ = some y → ((List.range (l.length * 6)).map T).toArray[j * 6 + d]? = some y := by
          intro d y hd h2
          have h3 := hT (j * 6 + d) (by omega)
          rw [← Nat.add_assoc, h2] at h3
          simp only [List.getElem?_toArray]
          rw [hget _ (by omega)]
          exact h3.symm
        exact ⟨_, ⟨x0, x1, x2, x3, x4, x5, rfl, go 0 _ (by omega) c0, go 1 _ (by omega) c1, go 2 _ (by omega) c2, go 3 _ (by omega) c3, go 4 _ (by omega) c4, go 5 _ (by omega) c5⟩, hv⟩
      refine ⟨(List.range (l.length * 6)).map T, ⟨by simp, fun u hu => ?_, hpt⟩, fun j u hu => ?_⟩
      · obtain ⟨i, hi, rfl⟩ := List.getElem_of_mem hu
        have hi : i < l.length * 6 := by simpa using hi
        obtain ⟨x, ⟨x0, x1, x2, x3, x4, x5, rfl, c0, c1, c2, c3, c4, c5⟩, hv⟩ := hpt (i / 6) (by omega)
        have hone := con_one_cell hv
        simp only [List.getElem?_toArray] at c0 c1 c2 c3 c4 c5
        have go : ∀ d y, i % 6 = d → y ∈ [x0, x1, x2, x3, x4, x5] → ((List.range (l.length * 6)).map T)[i / 6 * 6 + d]? = some y → ((List.range (l.length * 6)).map T)[i].oneCell' = true := by
          intro d y h1 h2 h3
          have e : i / 6 * 6 + d = i := by omega
          rw [e, List.getElem?_eq_getElem (by simpa using hi)] at h3
          injection h3 with h3
          rw [h3]
          exact hone y h2
        have hd : i % 6 = 0 ∨ i % 6 = 1 ∨ i % 6 = 2 ∨ i % 6 = 3 ∨ i % 6 = 4 ∨ i % 6 = 5 := by omega
        rcases hd with h | h | h | h | h | h
        · exact go 0 _ h (by simp) c0
        · exact go 1 _ h (by simp) c1
        · exact go 2 _ h (by simp) c2
        · exact go 3 _ h (by simp) c3
        · exact go 4 _ h (by simp) c4
        · exact go 5 _ h (by simp) c5
      · have hj : j < l.length * 6 := by
          have := (List.getElem?_eq_some_iff.1 hu).1
          simpa using this
        rw [hget j hj] at hu
        rw [← hu, hadd]
        exact hT j hj
theorem ConIn.right {us vs : List Value} {o : Nat} {v : Value} (h : ConIn vs.toArray o v) : ConIn (us ++ vs).toArray (us.length + o) v := by
  obtain ⟨x0, x1, x2, x3, x4, x5, rfl, h0, h1, h2, h3, h4, h5⟩ := h
  have each : ∀ (i : Nat) (x : Value), vs.toArray[o + i]? = some x → (us ++ vs).toArray[us.length + o + i]? = some x := by
    intro i x hx
    simp only [List.getElem?_toArray] at hx ⊢
    rw [List.getElem?_append_right (by omega), show us.length + o + i - us.length = o + i from by omega]
    exact hx
  exact ⟨x0, x1, x2, x3, x4, x5, rfl, each 0 _ h0, each 1 _ h1, each 2 _ h2, each 3 _ h3, each 4 _ h4, each 5 _ h5⟩
theorem ConRow.app {w : World} {P : Nat → Prop} {us vs : List Value} {ts rs : List Con} (h : ConRow w P us ts) (k : ConRow w P vs rs) : ConRow w P (us ++ vs) (ts ++ rs) := by
  refine ⟨by rw [List.length_append, List.length_append, h.1, k.1]; omega, fun u hu => ?_, fun j hj => ?_⟩
  · rcases List.mem_append.1 hu with hu | hu
    · exact h.2.1 u hu
    · exact k.2.1 u hu
  rcases Nat.lt_or_ge j ts.length with hlt | hge
  · obtain ⟨y, h1, h2⟩ := h.2.2 j hlt
    exact ⟨y, h1.left, by rw [List.getElem_append_left hlt]; exact h2⟩
  · have hk : j - ts.length < rs.length := by rw [List.length_append] at hj; omega
    obtain ⟨y, h1, h2⟩ := k.2.2 (j - ts.length) hk
    refine ⟨y, ?_, by rw [List.getElem_append_right hge]; exact h2⟩
    have := h1.right (us := us)
    rw [h.1, show ts.length * 6 + (j - ts.length) * 6 = j * 6 from by omega] at this
    exact this
theorem ConRow.one {w : World} {P : Nat → Prop} {us : List Value} {ts : List Con} (h : ConRow w P us ts) : ∀ u ∈ us, u.oneCell' = true := h.2.1
theorem ownC_form {w : World} {base : Nat} {v : Value} {n : Nat} {xs : List Value} (h : w.ownsRow base 28 6 v n xs) : ∃ a c, v = .slice a n c ∧ n ≤ c := by
  rcases h.2 with ⟨hv, h0⟩ | ⟨g, cap, cur, hv, _, _, hnc, _⟩
  · exact ⟨none, 0, by rw [hv, h0], by omega⟩
  · exact ⟨_, _, hv, hnc⟩
/-- one more row behind the row that the call owns -/
theorem wpList_append_cons9 {w : World} {ops : Array Oper} {rest : List Oper} {o : Oper} {a : Act} {Q : Exit → Act → World → Prop} (hgd : o.guard = none) (s x : Operand)
    (ho : o.op = .call { callee := .builtin .append, args := #[s, x], argTypes := #[26, 26] })
    (P : Nat → Prop) (base : Nat) (v : Value) (ts rs : List Con) (us : List Value) (hs : a.eval s = v) (hown : w.ownsRow base 28 6 v ts.length us) (hP : ∀ q, P q → q < base) (hr : ConRow w P us ts) (x0 : Value) (hx : a.eval x = x0) (hk : ConSl w P x0 rs) (hlen : ts.length + rs.length ≤ 100000) (hbase : base ≤ w.heap.size)
    (h : ∀ v' w' us', w'.ownsRow base 28 6 v' (ts ++ rs).length us' → ConRow w' P us' (ts ++ rs) → Below base w w' → wpList Tryz.prog ops Q rest (a.put o.dst v') w') : wpList Tryz.prog ops Q (o :: rest) a w := by
  obtain ⟨i9, hi, hz0, hz1, hz2⟩ := info_parts infoCon
  obtain ⟨ax, cx, rfl, hcase⟩ := hk.row
  rcases hcase with ⟨rfl, rfl, rfl⟩ | ⟨ad, rfl, ns, hns, hcs⟩
  · obtain ⟨b, c, rfl, hnc⟩ := ownC_form hown
    refine wpList_append_none9 hgd s x _ ho _ i9 Tryz.underlying26 hi b ts.length c hs hx hnc ?_
    rw [List.append_nil] at h
    exact h _ _ us hown hr (Below.refl _ _)
  · refine wpList_append_own (P := Tryz.prog) (w := w) hgd s x 26 ho base 28 i9 (.agg #[.int .i64 0, .int .i64 0, .string ByteArray.empty, .slice none 0 0, .slice none 0 0, .slice none 0 0]) 6 104 Tryz.underlying26 hi hz0 hz1 hz2 rfl (by decide) v ts.length us hs hown ad rs.length cx ns hx hns.1 hcs hns.one (by unfold maxLen; omega) (by omega) hbase ?_
    intro v' w' hown' hgrow _
    have hb : Below base w w' := (Below.refl base w).grown hgrow hbase (fun k hk => (hown.lt k hk).1)
    refine h v' w' (us ++ ns) ?_ ?_ hb
    · rw [List.length_append]; exact hown'
    · exact (hr.app hns).keep (Same.of_below hb hP)
set_option maxRecDepth 100000 in
set_option maxHeartbeats 4000000 in
theorem concatC_any (P : Nat → Prop) (g : Nat) (v1 v2 : Value) (A B : List Con) (w : World) (hP : ∀ q, P q → q < w.heap.size) (hg : Blk w g 26 #[v1, v2]) (h1 : ConSl w P v1 A) (h2 : ConSl w P v2 B) (ha : A.length ≤ 10000) (hb : B.length ≤ 10000) :
    Calls Tryz.prog 34 #[.slice (some ⟨g, 0, none⟩) 2 2] w fun e w' => (∃ a n c, e = .returned (.slice a n c) ∧ ConSl w' (Ext P w w') (.slice a n c) (A ++ B)) ∧ Below w.heap.size w w' := by
  obtain ⟨a1, c1, rfl, -⟩ := h1.each
  obtain ⟨a2, c2, rfl, -⟩ := h2.each
  have HK1 := Lib.hid h1
  have HK2 := Lib.hid h2
  have HP := Lib.hid hP
  have G0 := Lib.hid (hg.cell 0 (.slice a1 A.length c1) rfl)
  have G1 := Lib.hid (hg.cell 1 (.slice a2 B.length c2) rfl)
  have hgl := hg.lt
  obtain ⟨n1, hn1⟩ : ∃ n, n = A.length := ⟨_, rfl⟩
  obtain ⟨n2, hn2⟩ : ∃ n, n = B.length := ⟨_, rfl⟩
  have HN1 := Lib.hid hn1
  have HN2 := Lib.hid hn2
  rw [← hn1] at G0 ha
  rw [← hn2] at G1 hb
  clear hg h1 h2 hP hn1 hn2
  have g0 := G0.out
  have g1 := G1.out
  go_enter Tryz.func34, Tryz.ntmps34
  go_wp2_with fail
  go_loopg [3, 11] 3 (fun m sz i wr => wr = w ∧ ((i = .int .i64 0 ∧ sz = .int .i64 0 ∧ m = 3) ∨ (i = .int .i64 1 ∧ sz = .int .i64 n1 ∧ m = 2) ∨ (i = .int .i64 2 ∧ sz = .int .i64 ((n1 : Int) + (n2 : Int)) ∧ m = 1)))
  case atStart => exact ⟨rfl, .inl ⟨rfl, rfl, rfl⟩⟩
  case round =>
    obtain ⟨rfl, ⟨rfl, rfl, hm⟩ | ⟨rfl, rfl, hm⟩ | ⟨rfl, rfl, hm⟩⟩ := hrel
    · go_wp2
      go_roundg (gk - 1)
      case measure => omega
      case rel => exact ⟨rfl, .inr (.inl ⟨rfl, by go_num, by omega⟩)⟩
    · have q0 : decide ((n1 : Int) + (n2 : Int) < 0) = false := by simp; omega
      go_wp2
      go_roundg (gk - 1)
      case measure => omega
      case rel => exact ⟨rfl, .inr (.inr ⟨rfl, by go_num, by omega⟩)⟩
    · have hgr := growC_any (n1 + n2) wr (by omega)
      rw [Int.natCast_add] at hgr
      have HGR := Lib.hid hgr
      clear hgr hm g0 g1
      go_wp2_with fail
      rename World => wa
      refine HGR.out.mono ?_
      rintro e w2 ⟨⟨v, rfl, hown⟩, hbw⟩
      obtain ⟨Av, cv, rfl, -⟩ := ownC_form hown
      have HOWN0 := Lib.hid hown
      have HBW0 := Lib.hid hbw
      clear hown hbw HGR
      go_wp2_with fail
      go_loopg [6, 27] 3 (fun m v i wr => ∃ (ts : List Con) (us : List Value), wr.ownsRow wa.heap.size 28 6 v ts.length us ∧ ConRow wr P us ts ∧ Below wa.heap.size wa wr ∧ ((i = .int .i64 0 ∧ m = 3 ∧ ts = []) ∨ (i = .int .i64 1 ∧ m = 2 ∧ ts = A) ∨ (i = .int .i64 2 ∧ m = 1 ∧ ts = A ++ B)))
      case atStart => exact ⟨[], [], HOWN0.out, ConRow.nil _ _, HBW0.out, .inl ⟨rfl, rfl, rfl⟩⟩
      case round =>
        obtain ⟨ts, us, hown, hrow, hbw, ⟨rfl, hm, rfl⟩ | ⟨rfl, hm, rfl⟩ | ⟨rfl, hm, rfl⟩⟩ := hrel
        · have hcell := (hbw.cell (p := ⟨g, 0, none⟩) hgl).trans G0.out
          have hk := HK1.out.keep (Same.of_below hbw HP.out)
          rw [← HN1.out] at hk
          obtain ⟨Av, cv, rfl, -⟩ := ownC_form hown
          have HOWN := Lib.hid hown
          have HROW := Lib.hid hrow
          have HBW := Lib.hid hbw
          have HK := Lib.hid hk
          clear hown hbw hrow hk
          go_wp2_with (at_builtin; refine wpList_append_cons9 rfl _ _ rfl P wa.heap.size _ [] A us rfl HOWN.out HP.out HROW.out _ rfl HK.out ?b1 HBW.out.size ?_)
          case b1 => have := HN1.out; simp; omega
          intro v' w4 us' hown' hrow' hb4
          obtain ⟨A4, c4, rfl, -⟩ := ownC_form hown'
          have HO4 := Lib.hid hown'
          have HR4 := Lib.hid hrow'
          have HB4 := Lib.hid (HBW.out.trans hb4)
          clear hown' hrow' hb4 hcell
          go_wp2
          go_roundg (gk - 1)
          case measure => omega
          case rel => exact ⟨[] ++ A, us', HO4.out, HR4.out, HB4.out, .inr (.inl ⟨by go_num, by omega, rfl⟩)⟩
        · have hcell := (hbw.cell (p := ⟨g, 1, none⟩) hgl).trans G1.out
          have hk := HK2.out.keep (Same.of_below hbw HP.out)
          rw [← HN2.out] at hk
          obtain ⟨Av, cv, rfl, -⟩ := ownC_form hown
          have HOWN := Lib.hid hown
          have HROW := Lib.hid hrow
          have HBW := Lib.hid hbw
          have HK := Lib.hid hk
          clear hown hbw hrow hk
          go_wp2_with (at_builtin; refine wpList_append_cons9 rfl _ _ rfl P wa.heap.size _ _ B us rfl HOWN.out HP.out HROW.out _ rfl HK.out ?b1 HBW.out.size ?_)
          case b1 => have := HN1.out; have := HN2.out; omega
          intro v' w4 us' hown' hrow' hb4
          obtain ⟨A4, c4, rfl, -⟩ := ownC_form hown'
          have HO4 := Lib.hid hown'
          have HR4 := Lib.hid hrow'
          have HB4 := Lib.hid (HBW.out.trans hb4)
          clear hown' hrow' hb4 hcell
          go_wp2
          go_roundg (gk - 1)
          case measure => omega
          case rel => exact ⟨ts ++ B, us', (by rw [List.length_append]; exact HO4.out), HR4.out, HB4.out, .inr (.inr ⟨by go_num, by omega, rfl⟩)⟩
        · have hks := ConRow.cons (S := fun q => P q ∨ (wa.heap.size ≤ q ∧ q < wr.heap.size)) hown hrow (fun q hq => .inl hq) (fun q h1 h2 => .inr ⟨h1, h2⟩)
          obtain ⟨Av, cv, rfl, -⟩ := ownC_form hown
          have HT := Lib.hid (show ConSl wr (Ext P wa wr) _ _ from hks)
          have HBW := Lib.hid hbw
          clear hks hbw hown hrow
          go_wp2
          go_ret
          exact ⟨⟨_, _, _, rfl, HT.out⟩, HBW.out⟩
end Go.Proofs.YtpkgiemdnfbopaaGreat
namespace Go.Proofs.YtpkgiemdnfbopaaGreat
open Go Go.RowKit
open Pl (K Con)
set_option linter.unusedSimpArgs false
set_option linter.unusedVariables false

theorem depth_le_size9 (t : Con) : t.depth ≤ t.size := by
  induction t using Con.ind with
  | h t ih =>
  rw [Con.depth_eq, Con.size_eq]
  have key : ∀ l : List Con, (∀ x ∈ l, x.depth ≤ x.size) → Con.depths l ≤ Con.sizes l := by
    intro l
    induction l with
    | nil => intro _; rw [Con.depths_nil]; omega
    | cons x r ihr =>
      intro h
      rw [Con.depths_cons, Con.sizes_cons]
      have h1 := h x List.mem_cons_self
      have h2 := ihr (fun y hy => h y (List.mem_cons_of_mem _ hy))
      omega
  have := key t.l ih
  omega
theorem ap_size9 (t x : Con) : (ap t x).size = 1 + (t.size + x.size) := by
  rw [Con.size_eq]
  show 1 + Con.sizes [t, x] = _
  rw [Con.sizes_cons, Con.sizes_cons, Con.sizes_nil]
  omega
theorem ap_depth9 (t x : Con) : (ap t x).depth = 1 + max t.depth x.depth := by
  rw [Con.depth_eq]
  show 1 + Con.depths [t, x] = _
  rw [Con.depths_cons, Con.depths_cons, Con.depths_nil]
  omega
theorem appsC_bounds (m : Nat) : ∀ (l : List Con) (t : Con), t.depth ≤ m → (∀ x ∈ l, x.depth ≤ m ∧ x.size ≤ 60) → (appsC t l).depth ≤ m + l.length ∧ (appsC t l).size ≤ t.size + 61 * l.length := by
  have key : ∀ (l : List Con) (t : Con) (d : Nat), t.depth ≤ m + d → (∀ x ∈ l, x.depth ≤ m ∧ x.size ≤ 60) → (appsC t l).depth ≤ m + d + l.length ∧ (appsC t l).size ≤ t.size + 61 * l.length := by
    intro l
    induction l with
    | nil => intro t d h _; exact ⟨by simpa [appsC] using h, by simp [appsC]⟩
    | cons x r ih =>
      intro t d h hl
      have hx := hl x List.mem_cons_self
      have := ih (ap t x) (d + 1) (by rw [ap_depth9]; omega) (fun y hy => hl y (List.mem_cons_of_mem _ hy))
      have e : appsC t (x :: r) = appsC (ap t x) r := rfl
      rw [e, List.length_cons]
      rw [ap_size9] at this
      omega
  intro l t h hl
  exact key l t 0 (by omega) hl
/-- the application of a few small ones is well-formed -/
theorem apps_valid9 (t : Con) (l : List Con) (ht : Con.validB t = true) (hs : t.size ≤ 60) (hl : ∀ x ∈ l, Con.validB x = true ∧ x.size ≤ 60) (h6 : l.length ≤ 6) : appsOut t l = (appsC t l, 0) ∧ Con.validB (appsC t l) = true := by
  have hb := appsC_bounds 60 l t (by have := depth_le_size9 t; omega) (fun x hx => ⟨by have := depth_le_size9 x; have := (hl x hx).2; omega, (hl x hx).2⟩)
  have ha := appsC_all t l (valid_all t ht) (fun x hx => valid_all x (hl x hx).1)
  have hv : Con.validB (appsC t l) = true := by
    unfold Con.validB Con.small
    rw [ha, decide_eq_true (show (appsC t l).size ≤ 20000 by omega), decide_eq_true (show (appsC t l).depth ≤ 400 by omega)]
    rfl
  refine ⟨?_, hv⟩
  unfold appsOut
  rw [if_pos (by rw [ht, List.all_eq_true.2 (fun x hx => (hl x hx).1)]; rfl), if_neg (by omega)]
  exact outB_valid9 _ hv
/-- what is bound and unbound is as before, and has no constants -/
theorem binds_keep {t u : Con} {uc : Int} (hv : Con.validB t = true) (hc : Con.consB t = true) (hsz : t.size ≤ 60) (hb : (u, uc) = bindOut t ((Con.consL t).map (·.1))) :
    uc = 6 ∨ (uc = 0 ∧ consOut u = ([], 0) ∧ unbindOut u (Con.consL t) = (t, 0)) := by
  obtain ⟨e0, hlen, hcn, hcb, hnd, hfc, hin, hun, hput⟩ := binds_plain t hv hc
  have hix : idxCode ((Con.consL t).map (·.1)) = 0 := by
    unfold idxCode
    rw [if_neg (by rw [List.length_map]; omega), if_pos hnd]
  rw [bindOut_eq, if_pos (by rw [hv, hcn]; rfl), if_pos hix] at hb
  rcases outB_cases (Con.bindC ((Con.consL t).map (·.1)) t 0) with ⟨h1, h2⟩ | ⟨h1, h2⟩
  · rw [h2] at hb
    injection hb with hu huc
    subst hu
    subst huc
    refine .inr ⟨rfl, ?_, ?_⟩
    · unfold consOut
      rw [if_pos h1]
      generalize Con.bindC ((Con.consL t).map (·.1)) t 0 = b at hput
      unfold Con.consB Con.consL
      rw [hput]
      rfl
    · rw [unbindOut_ok _ _ h1 hcb hix, hun]
  · rw [h2] at hb
    injection hb with hu huc
    exact .inl huc
theorem eqAll_self9 (l : List Con) : (l.length == l.length && eqAllC Con.sameB l l) = true := (eqAllC_same l l).2 rfl
end Go.Proofs.YtpkgiemdnfbopaaGreat
namespace Go.Proofs.YtpkgiemdnfbopaaGreat
open Go Go.RowKit
open Pl (K Con)
set_option linter.unusedSimpArgs false
set_option linter.unusedVariables false

theorem ConSl.grow9 {w w' : World} {v : Value} {l : List Con} (h : ConSl w (· < w.heap.size) v l) (hb : Below w.heap.size w w') : ConSl w' (· < w'.heap.size) v l := (h.keep (Same.of_below hb (fun _ h => h))).mono (fun _ h => Nat.lt_of_lt_of_le h hb.size)
theorem Spn.len {t h : Con} {l : List Con} (p : Spn t h l) : l.length ≤ t.size := by
  induction p with
  | base t _ => exact Nat.zero_le _
  | app t f a h l _ h2 _ ih =>
    rw [Con.size_eq, h2, Con.sizes_cons, List.length_append]
    show l.length + 1 ≤ _
    omega
set_option maxRecDepth 100000 in
set_option maxHeartbeats 8000000 in
theorem binds_any (t : Con) (l : List Con) (w : World) (v xv : Value) (ht : ConV w (· < w.heap.size) t v) (hl : ConSl w (· < w.heap.size) xv l) :
    Calls Tryz.prog 4 #[v, xv] w fun e w' => e = .returned (.bool true) ∧ Below w.heap.size w w' := by
  have HA := Lib.hid awake9
  have HT := Lib.hid (fun W (hW : Below w.heap.size w W) => ht.grow hW)
  have HLS := Lib.hid (fun W (hW : Below w.heap.size w W) => hl.grow9 hW)
  have HSM := Lib.hid (fun W x' (hl : ConSl W (· < W.heap.size) x' [t]) => tiny_any (· < W.heap.size) [t] W x' (fun _ h => h) hl)
  have HSL := Lib.hid (fun W (hW : Below w.heap.size w W) => tiny_any (· < W.heap.size) l W xv (fun _ h => h) (HLS.out W hW))
  obtain ⟨⟨l1, e1⟩, hco⟩ : ∃ z, z = consOut t := ⟨_, rfl⟩
  have HCS := Lib.hid (fun W (hW : Below w.heap.size w W) => (show Calls Tryz.prog 13 #[v] W (fun e w' => (∃ y, e = .returned (.tuple #[y, .int .i64 e1]) ∧ CstSl w' (fun q => W.heap.size ≤ q ∧ q < w'.heap.size) y l1) ∧ Below W.heap.size W w') from by
    have h := cconsts_any t W v (HT.out W hW)
    rw [← hco] at h
    exact h))
  have HCV := Lib.hid (show (l1 = [] ∧ e1 = 1 ∧ Con.validB t = false) ∨ (l1 = [] ∧ e1 = 11) ∨ (l1 = Con.consL t ∧ e1 = 0 ∧ Con.consB t = true) from by
    unfold consOut at hco
    cases hv : Con.validB t
    · rw [hv, if_neg (by simp)] at hco
      simp only [Prod.mk.injEq] at hco
      exact .inl ⟨hco.1, hco.2, rfl⟩
    · rw [hv, if_pos rfl] at hco
      cases hc : Con.consB t
      · rw [hc, if_neg (by simp)] at hco
        exact .inr (.inl (by simpa using hco))
      · rw [hc, if_pos rfl] at hco
        simp only [Prod.mk.injEq] at hco
        exact .inr (.inr ⟨hco.1, hco.2, rfl⟩))
  obtain ⟨xa, xc, rfl, hcn, hcm, -⟩ := hl.each
  obtain ⟨n, hn⟩ : ∃ n, n = l.length := ⟨_, rfl⟩
  have hn63 : n ≤ 9223372036854775807 := by unfold maxLen at hcm; omega
  rw [← hn] at HSL HLS ⊢
  have HNn := Lib.hid hn
  clear hco hcn hcm hn hl
  obtain ⟨ka, kn, kc, na, nn, nc, la, ln, lc, rfl, -, -, -⟩ := ht.shape
  obtain ⟨hbx, hb⟩ := boxN_new w 28 #[.int .i64 t.op, .int .i64 t.n, .string t.s, .slice ka kn kc, .slice na nn nc, .slice la ln lc]
  have HB := Lib.hid hb
  have HBX := Lib.hid hbx
  clear hbx hb ht
  go_enter Tryz.func4, Tryz.ntmps4
  go_upto_region 1 with fail
  generalize w.alloc (.cells #[.int .i64 t.op, .int .i64 t.n, .string t.s, .slice ka kn kc, .slice na nn nc, .slice la ln lc] 28) = w2 at *
  go_cut [39] from 22 to 39 (fun s39 W => ∃ r : Bool, s39 = .bool r ∧ (r = false → Con.Tiny9 t ∧ (∀ x ∈ l, Con.Tiny9 x) ∧ n ≤ 6) ∧ Below w2.heap.size w2 W)
  case first =>
    have HK := Lib.hid (Below.refl w2.heap.size w2)
    go_wp2_with fail
    refine (HA.out _).mono ?_
    rintro e w3 ⟨rfl, hb⟩
    replace HBX := Lib.hid (HBX.out.of_eq (hb.block _ HBX.out.lt))
    replace HB := Lib.hid (belowStep hb HB.out)
    replace HK := Lib.hid (belowStep hb HK.out)
    clear hb
    by_cases h6 : 6 < n
    · have q1 : decide ((6 : Int) < (n : Int)) = true := decide_eq_true (by omega)
      go_wp2
      go_meet
      exact ⟨true, rfl, fun h => (by cases h), HK.out⟩
    have q1 : decide ((6 : Int) < (n : Int)) = false := decide_eq_false (by omega)
    have HN6 := Lib.hid (show n ≤ 6 from by omega)
    clear h6
    have c0 := HBX.out.cell 0 (.int .i64 t.op) rfl
    have c1 := HBX.out.cell 1 (.int .i64 t.n) rfl
    have c2 := HBX.out.cell 2 (.string t.s) rfl
    have c3 := HBX.out.cell 3 (.slice ka kn kc) rfl
    have c4 := HBX.out.cell 4 (.slice na nn nc) rfl
    have c5 := HBX.out.cell 5 (.slice la ln lc) rfl
    go_wp2_with fail
    clear c0 c1 c2 c3 c4 c5
    obtain ⟨hbx, hb⟩ := boxN_new w3 28 #[.int .i64 t.op, .int .i64 t.n, .string t.s, .slice ka kn kc, .slice na nn nc, .slice la ln lc]
    have HONE := Lib.hid (cons_one (P := (· < (w3.alloc (.cells #[.int .i64 t.op, .int .i64 t.n, .string t.s, .slice ka kn kc, .slice na nn nc, .slice la ln lc] 28)).heap.size)) hbx hbx.lt (HT.out _ (belowStep hb HB.out)))
    replace HBX := Lib.hid (HBX.out.of_eq (hb.block _ HBX.out.lt))
    replace HB := Lib.hid (belowStep hb HB.out)
    replace HK := Lib.hid (belowStep hb HK.out)
    clear hbx hb
    generalize w3.alloc (.cells #[.int .i64 t.op, .int .i64 t.n, .string t.s, .slice ka kn kc, .slice na nn nc, .slice la ln lc] 28) = w4 at *
    refine (HSM.out _ _ HONE.out).mono ?_
    rintro e w5 ⟨⟨r, rfl, hsm⟩, hb⟩
    have HSMR := Lib.hid hsm
    replace HBX := Lib.hid (HBX.out.of_eq (hb.block _ HBX.out.lt))
    replace HB := Lib.hid (belowStep hb HB.out)
    replace HK := Lib.hid (belowStep hb HK.out)
    clear hb hsm HONE HSM
    cases r
    · go_wp2
      go_meet
      exact ⟨true, rfl, fun h => (by cases h), HK.out⟩
    have HT9 := Lib.hid (HSMR.out rfl t List.mem_cons_self)
    clear HSMR
    go_wp2_with fail
    refine (HSL.out _ HB.out).mono ?_
    rintro e w6 ⟨⟨r, rfl, hsm⟩, hb⟩
    have HSMR := Lib.hid hsm
    replace HBX := Lib.hid (HBX.out.of_eq (hb.block _ HBX.out.lt))
    replace HB := Lib.hid (belowStep hb HB.out)
    replace HK := Lib.hid (belowStep hb HK.out)
    clear hb hsm HSL
    cases r
    · go_wp2
      go_meet
      exact ⟨true, rfl, fun h => (by cases h), HK.out⟩
    have HL9 := Lib.hid (HSMR.out rfl)
    go_wp2
    go_meet
    exact ⟨false, rfl, fun _ => ⟨HT9.out, HL9.out, HN6.out⟩, HK.out⟩
  case rest =>
    obtain ⟨r, rfl, hsm, hb⟩ := hcut
    rename World => w5
    replace HBX := Lib.hid (HBX.out.of_eq (hb.block _ HBX.out.lt))
    replace HB := Lib.hid (belowStep hb HB.out)
    have HSMR := Lib.hid hsm
    clear hb hsm HSM HSL
    cases r
    rotate_left
    · go_wp2_with fail
      refine (HA.out _).mono ?_
      rintro e wx ⟨rfl, hbx⟩
      have HB6 := Lib.hid (belowStep hbx HB.out)
      clear hbx
      go_wp2
      go_ret
      exact ⟨rfl, HB6.out⟩
    obtain ⟨⟨hs60, hvt⟩, hl9, hn6⟩ := HSMR.out rfl
    have HS60 := Lib.hid (show t.size ≤ 60 from by have := size_le_wt t; omega)
    have HVT := Lib.hid hvt
    have hl6 : n ≤ 6 := hn6
    obtain ⟨ha1, ha2⟩ := apps_valid9 t l hvt HS60.out (fun x hx => ⟨(hl9 x hx).2, by have := size_le_wt x; have := (hl9 x hx).1; omega⟩) (by rw [← HNn.out]; exact hn6)
    have HAO := Lib.hid ha1
    have HAV := Lib.hid ha2
    clear hs60 hvt hl9 hn6 HSMR HA ha1 ha2
    have HAP := Lib.hid (capps_new t l w5 _ _ (HT.out _ HB.out) (HLS.out _ HB.out))
    rw [HAO.out] at HAP
    have c0 := HBX.out.cell 0 (.int .i64 t.op) rfl
    have c1 := HBX.out.cell 1 (.int .i64 t.n) rfl
    have c2 := HBX.out.cell 2 (.string t.s) rfl
    have c3 := HBX.out.cell 3 (.slice ka kn kc) rfl
    have c4 := HBX.out.cell 4 (.slice na nn nc) rfl
    have c5 := HBX.out.cell 5 (.slice la ln lc) rfl
    go_wp2_with fail
    clear c0 c1 c2 c3 c4 c5
    obtain ⟨ac, hac⟩ : ∃ c, c = appsC t l := ⟨_, rfl⟩
    have HAC := Lib.hid hac
    rw [← hac] at HAP HAV
    clear hac HAO
    refine HAP.out.mono ?_
    rintro e w7 ⟨⟨z, rfl, hz⟩, hb⟩
    obtain ⟨aka, akn, akc, ana, ann, anc, ala, aln, alc, rfl, -, -, -⟩ := hz.shape
    replace HBX := Lib.hid (HBX.out.of_eq (hb.block _ HBX.out.lt))
    replace HB := Lib.hid (belowStep hb HB.out)
    have HAVL := Lib.hid (hz.mono (fun q hq => hq.2))
    clear hb hz
    obtain ⟨hbx, hb⟩ := boxN_new w7 28 #[.int .i64 ac.op, .int .i64 ac.n, .string ac.s, .slice aka akn akc, .slice ana ann anc, .slice ala aln alc]
    replace HBX := Lib.hid (HBX.out.of_eq (hb.block _ HBX.out.lt))
    replace HAVL := Lib.hid (HAVL.out.grow hb)
    replace HB := Lib.hid (belowStep hb HB.out)
    have HBA := Lib.hid hbx
    clear hbx hb
    go_upto_region 4 with fail
    generalize w7.alloc (.cells #[.int .i64 ac.op, .int .i64 ac.n, .string ac.s, .slice aka akn akc, .slice ana ann anc, .slice ala aln alc] 28) = w7b at *
    clear HAP
    have HSN := Lib.hid (cspine_any ac _ _ HAVL.out)
    have c0 := HBA.out.cell 0 (.int .i64 ac.op) rfl
    have c1 := HBA.out.cell 1 (.int .i64 ac.n) rfl
    have c2 := HBA.out.cell 2 (.string ac.s) rfl
    have c3 := HBA.out.cell 3 (.slice aka akn akc) rfl
    have c4 := HBA.out.cell 4 (.slice ana ann anc) rfl
    have c5 := HBA.out.cell 5 (.slice ala aln alc) rfl
    go_wp2_with fail
    clear c0 c1 c2 c3 c4 c5
    refine HSN.out.mono ?_
    rintro e w8 ⟨⟨y, z, hcase⟩, hb⟩
    rcases hcase with ⟨rfl, hv, -⟩ | ⟨rfl, -, ph, pl, hsp, hy, hz⟩
    · exact absurd (HAV.out) (by rw [hv]; simp)
    obtain ⟨pka, pkn, pkc, pna, pnn, pnc, pla, pln, plc, rfl, -, -, -⟩ := hy.shape
    have hzz := hz
    obtain ⟨psa, psc, rfl, -⟩ := hzz.each
    replace HBX := Lib.hid (HBX.out.of_eq (hb.block _ HBX.out.lt))
    replace HBA := Lib.hid (HBA.out.of_eq (hb.block _ HBA.out.lt))
    replace HAVL := Lib.hid (HAVL.out.grow hb)
    replace HB := Lib.hid (belowStep hb HB.out)
    have HPV := Lib.hid hy
    have HLp := Lib.hid hz
    have HSp := Lib.hid hsp
    clear hb hy hz hzz hsp HSN
    obtain ⟨hbx, hb⟩ := boxN_new w8 28 #[.int .i64 ph.op, .int .i64 ph.n, .string ph.s, .slice pka pkn pkc, .slice pna pnn pnc, .slice pla pln plc]
    replace HBX := Lib.hid (HBX.out.of_eq (hb.block _ HBX.out.lt))
    replace HBA := Lib.hid (HBA.out.of_eq (hb.block _ HBA.out.lt))
    replace HAVL := Lib.hid (HAVL.out.grow hb)
    replace HPV := Lib.hid (HPV.out.grow hb)
    replace HLp := Lib.hid (HLp.out.grow9 hb)
    replace HB := Lib.hid (belowStep hb HB.out)
    have HBp := Lib.hid hbx
    clear hbx hb
    go_upto_region 5 with fail
    generalize w8.alloc (.cells #[.int .i64 ph.op, .int .i64 ph.n, .string ph.s, .slice pka pkn pkc, .slice pna pnn pnc, .slice pla pln plc] 28) = w8b at *
    have HSN := Lib.hid (cspine_any t _ _ (HT.out _ HB.out))
    have c0 := HBX.out.cell 0 (.int .i64 t.op) rfl
    have c1 := HBX.out.cell 1 (.int .i64 t.n) rfl
    have c2 := HBX.out.cell 2 (.string t.s) rfl
    have c3 := HBX.out.cell 3 (.slice ka kn kc) rfl
    have c4 := HBX.out.cell 4 (.slice na nn nc) rfl
    have c5 := HBX.out.cell 5 (.slice la ln lc) rfl
    go_wp2_with fail
    clear c0 c1 c2 c3 c4 c5
    refine HSN.out.mono ?_
    rintro e w9 ⟨⟨y, z, hcase⟩, hb⟩
    rcases hcase with ⟨rfl, hv, -⟩ | ⟨rfl, -, qh, ql, hsp, hy, hz⟩
    · exact absurd (HVT.out) (by rw [hv]; simp)
    obtain ⟨qka, qkn, qkc, qna, qnn, qnc, qla, qln, qlc, rfl, -, -, -⟩ := hy.shape
    have hzz := hz
    obtain ⟨qsa, qsc, rfl, -⟩ := hzz.each
    replace HBX := Lib.hid (HBX.out.of_eq (hb.block _ HBX.out.lt))
    replace HBA := Lib.hid (HBA.out.of_eq (hb.block _ HBA.out.lt))
    replace HBp := Lib.hid (HBp.out.of_eq (hb.block _ HBp.out.lt))
    replace HAVL := Lib.hid (HAVL.out.grow hb)
    replace HPV := Lib.hid (HPV.out.grow hb)
    replace HLp := Lib.hid (HLp.out.grow9 hb)
    replace HB := Lib.hid (belowStep hb HB.out)
    have HQV := Lib.hid hy
    have HLq := Lib.hid hz
    have HSq := Lib.hid hsp
    clear hb hy hz hzz hsp HSN
    obtain ⟨hbx, hb⟩ := boxN_new w9 28 #[.int .i64 qh.op, .int .i64 qh.n, .string qh.s, .slice qka qkn qkc, .slice qna qnn qnc, .slice qla qln qlc]
    replace HBX := Lib.hid (HBX.out.of_eq (hb.block _ HBX.out.lt))
    replace HBA := Lib.hid (HBA.out.of_eq (hb.block _ HBA.out.lt))
    replace HBp := Lib.hid (HBp.out.of_eq (hb.block _ HBp.out.lt))
    replace HAVL := Lib.hid (HAVL.out.grow hb)
    replace HPV := Lib.hid (HPV.out.grow hb)
    replace HQV := Lib.hid (HQV.out.grow hb)
    replace HLp := Lib.hid (HLp.out.grow9 hb)
    replace HLq := Lib.hid (HLq.out.grow9 hb)
    replace HB := Lib.hid (belowStep hb HB.out)
    have HBq := Lib.hid hbx
    clear hbx hb
    go_upto_region 6 with fail
    generalize w9.alloc (.cells #[.int .i64 qh.op, .int .i64 qh.n, .string qh.s, .slice qka qkn qkc, .slice qna qnn qnc, .slice qla qln qlc] 28) = w9b at *
    obtain ⟨hh, hl0⟩ := (HSp.out).one (by have := HSq.out.apps l; rw [← HAC.out] at this; exact this)
    subst hh
    have HLL := Lib.hid hl0
    have HQL := Lib.hid (show ql.length ≤ 60 from Nat.le_trans HSq.out.len HS60.out)
    clear hl0 HSp HSq HAC HAV
    obtain ⟨pn, hpn⟩ : ∃ k, k = pl.length := ⟨_, rfl⟩
    obtain ⟨qn, hqn⟩ : ∃ k, k = ql.length := ⟨_, rfl⟩
    rw [← hpn] at HLp ⊢
    rw [← hqn] at HLq ⊢
    have HPN := Lib.hid hpn
    have HQN := Lib.hid hqn
    clear hpn hqn
    have HEQ := Lib.hid (fun W a b (ha : ConV W (· < W.heap.size) ph a) (hb : ConV W (· < W.heap.size) ph b) => cequal_any ph (· < W.heap.size) (· < W.heap.size) ph W a b (fun _ h => h) (fun _ h => h) ha hb)
    rw [sameB_self] at HEQ
    have c0 := HBp.out.cell 0 (.int .i64 ph.op) rfl
    have c1 := HBp.out.cell 1 (.int .i64 ph.n) rfl
    have c2 := HBp.out.cell 2 (.string ph.s) rfl
    have c3 := HBp.out.cell 3 (.slice pka pkn pkc) rfl
    have c4 := HBp.out.cell 4 (.slice pna pnn pnc) rfl
    have c5 := HBp.out.cell 5 (.slice pla pln plc) rfl
    have e0 := HBq.out.cell 0 (.int .i64 ph.op) rfl
    have e1 := HBq.out.cell 1 (.int .i64 ph.n) rfl
    have e2 := HBq.out.cell 2 (.string ph.s) rfl
    have e3 := HBq.out.cell 3 (.slice qka qkn qkc) rfl
    have e4 := HBq.out.cell 4 (.slice qna qnn qnc) rfl
    have e5 := HBq.out.cell 5 (.slice qla qln qlc) rfl
    go_wp2_with fail
    clear c0 c1 c2 c3 c4 c5 e0 e1 e2 e3 e4 e5
    refine (HEQ.out _ _ _ HPV.out HQV.out).mono ?_
    rintro e w10 ⟨rfl, hb⟩
    replace HBX := Lib.hid (HBX.out.of_eq (hb.block _ HBX.out.lt))
    replace HBA := Lib.hid (HBA.out.of_eq (hb.block _ HBA.out.lt))
    replace HBp := Lib.hid (HBp.out.of_eq (hb.block _ HBp.out.lt))
    replace HBq := Lib.hid (HBq.out.of_eq (hb.block _ HBq.out.lt))
    replace HAVL := Lib.hid (HAVL.out.grow hb)
    replace HPV := Lib.hid (HPV.out.grow hb)
    replace HQV := Lib.hid (HQV.out.grow hb)
    replace HLp := Lib.hid (HLp.out.grow9 hb)
    replace HLq := Lib.hid (HLq.out.grow9 hb)
    replace HB := Lib.hid (belowStep hb HB.out)
    clear hb HEQ
    obtain ⟨hg2, hb⟩ := boxN_new w10 26 #[.slice qsa qn qsc, .slice xa n xc]
    replace HBX := Lib.hid (HBX.out.of_eq (hb.block _ HBX.out.lt))
    replace HBA := Lib.hid (HBA.out.of_eq (hb.block _ HBA.out.lt))
    replace HBp := Lib.hid (HBp.out.of_eq (hb.block _ HBp.out.lt))
    replace HBq := Lib.hid (HBq.out.of_eq (hb.block _ HBq.out.lt))
    replace HAVL := Lib.hid (HAVL.out.grow hb)
    replace HPV := Lib.hid (HPV.out.grow hb)
    replace HQV := Lib.hid (HQV.out.grow hb)
    replace HLp := Lib.hid (HLp.out.grow9 hb)
    replace HLq := Lib.hid (HLq.out.grow9 hb)
    replace HB := Lib.hid (belowStep hb HB.out)
    have HCC := Lib.hid (concatC_any (· < (w10.alloc (.cells #[.slice qsa qn qsc, .slice xa n xc] 26)).heap.size) w10.heap.size _ _ ql l _ (fun _ h => h) hg2 HLq.out ((HLS.out _ HB.out).mono (fun _ h => h)) (by have h1 := HQL.out; omega) (by rw [← HNn.out]; omega))
    clear hb hg2
    go_wp2_with fail
    generalize w10.alloc (.cells #[.slice qsa qn qsc, .slice xa n xc] 26) = w11 at *
    refine HCC.out.mono ?_
    rintro e w12 ⟨⟨ca9, cn9, cc9, rfl, hcl⟩, hb⟩
    have hcl2 := hcl.mono (Q := (· < w12.heap.size)) (fun q hq => by
      have h1 := hb.size
      rcases hq with hq | hq
      · have hq : q < w11.heap.size := hq
        omega
      · exact hq.2)
    replace HBX := Lib.hid (HBX.out.of_eq (hb.block _ HBX.out.lt))
    replace HBA := Lib.hid (HBA.out.of_eq (hb.block _ HBA.out.lt))
    replace HBp := Lib.hid (HBp.out.of_eq (hb.block _ HBp.out.lt))
    replace HBq := Lib.hid (HBq.out.of_eq (hb.block _ HBq.out.lt))
    replace HAVL := Lib.hid (HAVL.out.grow hb)
    replace HPV := Lib.hid (HPV.out.grow hb)
    replace HQV := Lib.hid (HQV.out.grow hb)
    replace HLp := Lib.hid (HLp.out.grow9 hb)
    replace HLq := Lib.hid (HLq.out.grow9 hb)
    replace HB := Lib.hid (belowStep hb HB.out)
    have HCL := Lib.hid hcl2
    clear hb hcl hcl2 HCC
    rw [← HLL.out] at HCL
    have HEF := Lib.hid (eqFuncC_any 32 Con.sameB (fun _ _ => rfl) (· < w12.heap.size) (· < w12.heap.size) pl pl (fun t _ P Q u W v x h1 h2 h3 h4 => cequal_any t P Q u W v x h1 h2 h3 h4) w12 _ _ (fun _ h => h) (fun _ h => h) HLp.out HCL.out)
    rw [eqAll_self9] at HEF
    go_wp2_with fail
    refine HEF.out.mono ?_
    rintro e w13 ⟨rfl, hb⟩
    replace HBX := Lib.hid (HBX.out.of_eq (hb.block _ HBX.out.lt))
    replace HBA := Lib.hid (HBA.out.of_eq (hb.block _ HBA.out.lt))
    replace HBp := Lib.hid (HBp.out.of_eq (hb.block _ HBp.out.lt))
    replace HBq := Lib.hid (HBq.out.of_eq (hb.block _ HBq.out.lt))
    replace HAVL := Lib.hid (HAVL.out.grow hb)
    replace HPV := Lib.hid (HPV.out.grow hb)
    replace HQV := Lib.hid (HQV.out.grow hb)
    replace HLp := Lib.hid (HLp.out.grow9 hb)
    replace HLq := Lib.hid (HLq.out.grow9 hb)
    replace HB := Lib.hid (belowStep hb HB.out)
    clear hb HEF HCL
    clear HBA HAVL HPV HQV HBp HBq HLp HLq HLL
    have c0 := HBX.out.cell 0 (.int .i64 t.op) rfl
    have c1 := HBX.out.cell 1 (.int .i64 t.n) rfl
    have c2 := HBX.out.cell 2 (.string t.s) rfl
    have c3 := HBX.out.cell 3 (.slice ka kn kc) rfl
    have c4 := HBX.out.cell 4 (.slice na nn nc) rfl
    have c5 := HBX.out.cell 5 (.slice la ln lc) rfl
    go_wp2_with fail
    clear c0 c1 c2 c3 c4 c5
    refine (HCS.out _ HB.out).mono ?_
    rintro e w14 ⟨⟨kv, rfl, hkv⟩, hb⟩
    have hlk := hkv
    obtain ⟨ka1, kc1, rfl, hkm0, hkm, -, -⟩ := hlk
    replace HBX := Lib.hid (HBX.out.of_eq (hb.block _ HBX.out.lt))
    replace HB := Lib.hid (belowStep hb HB.out)
    have HKV := Lib.hid (hkv.mono (fun q hq => hq.2))
    clear hb hkv HCS
    obtain ⟨ln1, hln1⟩ : ∃ n, n = l1.length := ⟨_, rfl⟩
    have HLN := Lib.hid hln1
    rw [← hln1] at HKV ⊢
    have hln63 : ln1 ≤ 9223372036854775807 := by unfold maxLen at hkm; omega
    clear hkm hkm0 hln1
    rcases HCV.out with ⟨h1, h2, h3⟩ | ⟨h1, h2⟩ | ⟨h1, h2, hc⟩
    · exact absurd HVT.out (by rw [h3]; simp)
    · obtain rfl : ln1 = 0 := by rw [HLN.out, h1]; rfl
      subst h2
      clear HLN h1
      go_wp2
      go_ret
      exact ⟨rfl, HB.out⟩
    subst h2
    have HL1 := Lib.hid h1
    have HCT := Lib.hid hc
    clear h1 hc HCV
    have HPT := Lib.hid (fun k (hk : k < l1.length) => csts_part9 (show CstSl w14 (· < w14.heap.size) _ l1 from HKV.out) k hk)
    have HZS := Lib.hid (show ∀ z ∈ l1.map (·.1), z.size ≤ maxLen from fun z hz => by
      obtain ⟨y, hy, rfl⟩ := List.mem_map.1 hz
      obtain ⟨j, hj, rfl⟩ := List.getElem_of_mem hy
      obtain ⟨_, _, _, _, _, _, -, h, -⟩ := HPT.out j hj
      exact h)
    have HL60 := Lib.hid (show ln1 ≤ 60 from by have h1 := (binds_plain t HVT.out HCT.out).2.1; have h2 := HS60.out; rw [HLN.out, HL1.out]; omega)
    have hl60 := HL60.out
    obtain ⟨iI, hi, hz0, hz1, hz2⟩ := info_parts infoStr9
    go_wp2_with fail
    go_loopg [14, 100] (ln1 + 1) (fun gk ov i wr => ∃ k : Nat, k ≤ ln1 ∧ i = .int .i64 k ∧ gk = ln1 + 1 - k ∧ wr.ownsRow w14.heap.size 9 1 ov ((l1.take k).map (·.1)).length (((l1.take k).map (·.1)).map Value.string) ∧ Below w14.heap.size w14 wr)
    case atStart => exact ⟨0, Nat.zero_le _, rfl, by omega, by rw [List.take_zero]; exact World.ownsRow_nil _ _ _ _, Below.refl _ _⟩
    case round =>
      obtain ⟨k, hk, rfl, hgk, hrow, hbw⟩ := hrel
      have HO := Lib.hid hrow
      have HBR := Lib.hid hbw
      by_cases hlt : k < ln1
      · have q5 : decide ((k : Int) < (ln1 : Int)) = true := decide_eq_true (by omega)
        have hkl : k < l1.length := by rw [← HLN.out]; exact hlt
        obtain ⟨b, off, c', ka', kn', kc', e, hsz, hat⟩ := HPT.out k hkl
        rw [← HLN.out] at e
        injection e with e1 e2 e3
        subst e1 e3
        clear e2
        obtain ⟨f0, f1, -⟩ := hat wr hbw
        clear hat
        have HTK := Lib.hid (show (l1.take (k + 1)).map (·.1) = (l1.take k).map (·.1) ++ [l1[k].1] from by rw [List.take_succ_eq_append_getElem hkl, List.map_append]; rfl)
        have HLK := Lib.hid (show ((l1.take k).map (·.1)).length = k from by rw [List.length_map, List.length_take]; omega)
        obtain ⟨hbx, hb⟩ := boxN_new wr 36 #[.string l1[k].1, .slice ka' kn' kc']
        have d0 := hbx.cell 0 (.string l1[k].1) rfl
        have d1 := hbx.cell 1 (.slice ka' kn' kc') rfl
        obtain ⟨ov, hov⟩ : ∃ o, o = ((l1.take k).map (·.1)) := ⟨_, rfl⟩
        rw [← hov] at HO HTK HLK
        generalize l1[k].1 = s at *
        have HO2 := Lib.hid (HO.out.alloc (.cells #[.string s, .slice ka' kn' kc'] 36))
        have HBR2 := Lib.hid (belowStep hb hbw)
        clear hrow hbw hov hb hbx
        go_upto_region 15 with fail
        clear f0 f1
        generalize wr.alloc (.cells #[.string s, .slice ka' kn' kc'] 36) = wa at *
        have h9 := HLK.out
        go_wp2_with (at_builtin; refine wpList_append_own _ rfl _ _ 25 rfl w14.heap.size 9 iI (.string ByteArray.empty) 1 16 Tryz.underlying25 hi hz0 hz1 hz2 rfl (by decide) _ _ _ rfl (HO2.out.alloc _) ⟨wa.heap.size, 0, none⟩ 1 1 [.string s] rfl rfl ?c1 ?c2 ?c3 ?c4 ?c5 ?_)
        try case c1 =>
          intro j u hj
          match j, hj with
          | 0, hj => simp at hj; subst hj; simp [Addr.add]
        case c2 => first | rfl | (intro u hu; simp at hu; subst hu; rfl)
        case c3 => unfold maxLen; omega
        case c4 => omega
        case c5 => have := HBR2.out.size; simp; omega
        intro v' w1' hown' hgrow _
        have HB1 := Lib.hid (below_appT HBR2.out HBR2.out.size HO2.out hgrow)
        have HO1 := Lib.hid (strRow_app (l := ov) (s := s) hown' (by simp; omega) (by simp))
        rw [← HTK.out] at HO1
        clear hown' hgrow HO HO2 HBR HBR2 d0 d1 h9
        go_wp2
        go_roundg (gk - 1)
        case measure => omega
        case rel => exact ⟨k + 1, by omega, by go_num, by omega, HO1.out, HB1.out⟩
      have hkn : k = ln1 := by omega
      subst hkn
      have q5 : decide ((k : Int) < (k : Int)) = false := decide_eq_false (by omega)
      have hta : l1.take k = l1 := List.take_of_length_le (by rw [HLN.out]; exact Nat.le_refl _)
      rw [hta] at HO
      have HNS := Lib.hid ((strSl_row HO.out HZS.out).mono (Q := (· < wr.heap.size)) (fun q hq => hq.2))
      have e9 : (l1.map (·.1)).length = k := by rw [List.length_map]; exact HLN.out.symm
      obtain ⟨oa, oc, hof, -⟩ := id HNS.out
      rw [e9] at hof
      subst hof
      replace HBX := Lib.hid (HBX.out.of_eq (hbw.block _ HBX.out.lt))
      replace HKV := Lib.hid (HKV.out.grow9 hbw)
      replace HB := Lib.hid (belowStep hbw HB.out)
      clear hrow hbw hta HBR HO HZS HPT hi hz0 hz1 hz2 e9
      obtain ⟨⟨u, uc⟩, hbo⟩ : ∃ z, z = bindOut t (l1.map (·.1)) := ⟨_, rfl⟩
      have HBI := Lib.hid (show Calls Tryz.prog 14 #[_, .slice oa k oc] wr (fun e w' => (∃ y, e = .returned (.tuple #[y, .int .i64 uc]) ∧ ConV w' (fun q => wr.heap.size ≤ q ∧ q < w'.heap.size) u y) ∧ Below wr.heap.size wr w') from by
        have h := cbind_new t (l1.map (·.1)) wr _ _ (HT.out wr HB.out) HNS.out
        rw [← hbo] at h
        exact h)
      have HKP := Lib.hid (binds_keep (u := u) (uc := uc) HVT.out HCT.out HS60.out (by rw [← HL1.out]; exact hbo))
      rw [← HL1.out] at HKP
      clear hbo HNS
      have c0 := HBX.out.cell 0 (.int .i64 t.op) rfl
      have c1 := HBX.out.cell 1 (.int .i64 t.n) rfl
      have c2 := HBX.out.cell 2 (.string t.s) rfl
      have c3 := HBX.out.cell 3 (.slice ka kn kc) rfl
      have c4 := HBX.out.cell 4 (.slice na nn nc) rfl
      have c5 := HBX.out.cell 5 (.slice la ln lc) rfl
      go_wp2_with fail
      clear c0 c1 c2 c3 c4 c5
      refine HBI.out.mono ?_
      rintro e w15 ⟨⟨z, rfl, hz⟩, hb⟩
      obtain ⟨uka, ukn, ukc, una, unn, unc, ula, uln, ulc, rfl, -, -, -⟩ := hz.shape
      replace HBX := Lib.hid (HBX.out.of_eq (hb.block _ HBX.out.lt))
      replace HKV := Lib.hid (HKV.out.grow9 hb)
      replace HB := Lib.hid (belowStep hb HB.out)
      have HUV := Lib.hid (hz.mono (fun q hq => hq.2))
      clear hb hz
      obtain ⟨hbx, hb⟩ := boxN_new w15 28 #[.int .i64 u.op, .int .i64 u.n, .string u.s, .slice uka ukn ukc, .slice una unn unc, .slice ula uln ulc]
      replace HBX := Lib.hid (HBX.out.of_eq (hb.block _ HBX.out.lt))
      replace HUV := Lib.hid (HUV.out.grow hb)
      replace HKV := Lib.hid (HKV.out.grow9 hb)
      replace HB := Lib.hid (belowStep hb HB.out)
      have HBU := Lib.hid hbx
      clear hbx hb
      go_upto_region 18 with fail
      generalize w15.alloc (.cells #[.int .i64 u.op, .int .i64 u.n, .string u.s, .slice uka ukn ukc, .slice una unn unc, .slice ula uln ulc] 28) = w15b at *
      clear HBI
      rcases HKP.out with h6 | ⟨h0, hcu, huu⟩
      · subst h6
        go_wp2
        go_ret
        exact ⟨rfl, HB.out⟩
      subst h0
      have HCU := Lib.hid hcu
      have HUU := Lib.hid huu
      clear hcu huu HKP
      go_upto_region 20 with fail
      have HC2 := Lib.hid (cconsts_any u _ _ HUV.out)
      rw [HCU.out] at HC2
      have c0 := HBU.out.cell 0 (.int .i64 u.op) rfl
      have c1 := HBU.out.cell 1 (.int .i64 u.n) rfl
      have c2 := HBU.out.cell 2 (.string u.s) rfl
      have c3 := HBU.out.cell 3 (.slice uka ukn ukc) rfl
      have c4 := HBU.out.cell 4 (.slice una unn unc) rfl
      have c5 := HBU.out.cell 5 (.slice ula uln ulc) rfl
      go_wp2_with fail
      clear c0 c1 c2 c3 c4 c5
      refine HC2.out.mono ?_
      rintro e w16 ⟨⟨nv, rfl, hnv⟩, hb⟩
      obtain ⟨na1, nc1, rfl, -⟩ := hnv
      replace HBX := Lib.hid (HBX.out.of_eq (hb.block _ HBX.out.lt))
      replace HBU := Lib.hid (HBU.out.of_eq (hb.block _ HBU.out.lt))
      replace HUV := Lib.hid (HUV.out.grow hb)
      replace HKV := Lib.hid (HKV.out.grow9 hb)
      replace HB := Lib.hid (belowStep hb HB.out)
      clear hb HC2 HCU
      have HU2 := Lib.hid (cunbind_new u l1 w16 _ _ HUV.out HKV.out (by rw [← HLN.out]; omega))
      rw [HUU.out] at HU2
      have c0 := HBU.out.cell 0 (.int .i64 u.op) rfl
      have c1 := HBU.out.cell 1 (.int .i64 u.n) rfl
      have c2 := HBU.out.cell 2 (.string u.s) rfl
      have c3 := HBU.out.cell 3 (.slice uka ukn ukc) rfl
      have c4 := HBU.out.cell 4 (.slice una unn unc) rfl
      have c5 := HBU.out.cell 5 (.slice ula uln ulc) rfl
      go_wp2_with fail
      clear c0 c1 c2 c3 c4 c5
      refine HU2.out.mono ?_
      rintro e w17 ⟨⟨z, rfl, hz⟩, hb⟩
      obtain ⟨zka, zkn, zkc, zna, znn, znc, zla, zln, zlc, rfl, -, -, -⟩ := hz.shape
      replace HBX := Lib.hid (HBX.out.of_eq (hb.block _ HBX.out.lt))
      replace HBU := Lib.hid (HBU.out.of_eq (hb.block _ HBU.out.lt))
      replace HUV := Lib.hid (HUV.out.grow hb)
      replace HKV := Lib.hid (HKV.out.grow9 hb)
      replace HB := Lib.hid (belowStep hb HB.out)
      have HZV := Lib.hid (hz.mono (fun q hq => hq.2))
      clear hb hz
      obtain ⟨hbx, hb⟩ := boxN_new w17 28 #[.int .i64 t.op, .int .i64 t.n, .string t.s, .slice zka zkn zkc, .slice zna znn znc, .slice zla zln zlc]
      replace HBX := Lib.hid (HBX.out.of_eq (hb.block _ HBX.out.lt))
      replace HBU := Lib.hid (HBU.out.of_eq (hb.block _ HBU.out.lt))
      replace HUV := Lib.hid (HUV.out.grow hb)
      replace HZV := Lib.hid (HZV.out.grow hb)
      replace HKV := Lib.hid (HKV.out.grow9 hb)
      replace HB := Lib.hid (belowStep hb HB.out)
      have HBZ := Lib.hid hbx
      clear hbx hb
      go_upto_region 22 with fail
      generalize w17.alloc (.cells #[.int .i64 t.op, .int .i64 t.n, .string t.s, .slice zka zkn zkc, .slice zna znn znc, .slice zla zln zlc] 28) = w17b at *
      clear HU2
      have HEQ := Lib.hid (cequal_any t (· < w17b.heap.size) (· < w17b.heap.size) t w17b _ _ (fun _ h => h) (fun _ h => h) HZV.out (HT.out _ HB.out))
      rw [sameB_self] at HEQ
      have c0 := HBX.out.cell 0 (.int .i64 t.op) rfl
      have c1 := HBX.out.cell 1 (.int .i64 t.n) rfl
      have c2 := HBX.out.cell 2 (.string t.s) rfl
      have c3 := HBX.out.cell 3 (.slice ka kn kc) rfl
      have c4 := HBX.out.cell 4 (.slice na nn nc) rfl
      have c5 := HBX.out.cell 5 (.slice la ln lc) rfl
      have e0 := HBZ.out.cell 0 (.int .i64 t.op) rfl
      have e1 := HBZ.out.cell 1 (.int .i64 t.n) rfl
      have e2 := HBZ.out.cell 2 (.string t.s) rfl
      have e3 := HBZ.out.cell 3 (.slice zka zkn zkc) rfl
      have e4 := HBZ.out.cell 4 (.slice zna znn znc) rfl
      have e5 := HBZ.out.cell 5 (.slice zla zln zlc) rfl
      go_wp2_with fail
      clear c0 c1 c2 c3 c4 c5 e0 e1 e2 e3 e4 e5
      refine HEQ.out.mono ?_
      rintro e w18 ⟨rfl, hb⟩
      have HBE := Lib.hid (belowStep hb HB.out)
      clear hb HEQ
      go_wp2
      go_ret
      exact ⟨rfl, HBE.out⟩
end Go.Proofs.YtpkgiemdnfbopaaGreat
namespace Go.Proofs.YtpkgiemdnfbopaaGreat
open Go Go.ChangeShapes Go.WideShapes Go.ChangeAt Go.RowKit
open Go.ChangeMaps (open_string shut_string)

set_option maxRecDepth 100000 in
theorem tyconBinds_lifted (os : Os) (started : os.Started) (H : Type) (enc : TypeId × Value → H) :
    ReturnsInHanded {} Tryz.checked os 4 .any (fun w args => Rows.tyconBindsSpec.pre enc Tryz.prog Tryz.f4 [] false w args ∧ sizedMet enc Tryz.prog Tryz.f4 (OpenSpec.ofChange Rows.tyconBindsSpec) false w args)
      (Rows.tyconBindsSpec.post enc Tryz.prog Tryz.f4 false true false false) := by
  refine handed_plain (C := Tryz.checked) own started (by kernel_rfl) Tryz.func4
    (ChangeSpec.witness_shaped (enc := enc) (C := Tryz.checked) (os := os) (X := fun _ _ => True) false (World.laidAll Tryz.prog os []) #[.agg #[.int .i64 0, .int .i64 0, .string ByteArray.empty, .slice none 0 0, .slice none 0 0, .slice none 0 0], .slice none 0 0] 8 (World.laidAll_os _ _ _)
      (World.shaped_of_ZipB (by kernel_rfl) (by kernel_rfl)) (by kernel_rfl) (by kernel_rfl) (by kernel_rfl)
      trivial) ?_
  intro W base args ds gs before hval0 hW _ _
  have hval : ∀ (j : Nat) t v, Tryz.f4.params[j]? = some t → args[j]? = some v → Value.okWide Tryz.prog W .any base t v := hval0
  have hW' := hW
  obtain ⟨p, q, hA0, hV, rfl, _, _⟩ := hW
  have hA : DataW.TrodAll enc Tryz.prog W 0 (fun _ => true) true Tryz.f4.params.toList args.toList ds p := hA0
  rw [Tryz.params4] at hA hval
  obtain ⟨v0, v1, d0, d1, p0, p1, rfl, rfl, rfl, h0, h1⟩ := trodAll_two hA
  obtain ⟨rfl, rfl⟩ := trodVars_none hV
  obtain ⟨t0, ht0⟩ := open_con (hval 0 28 v0 rfl rfl) h0
  obtain ⟨t1, ht1⟩ := open_cons (hval 1 26 v1 rfl rfl) h1
  simp only [List.append_nil] at hW'
  refine (binds_any t0 t1 W v0 v1 ht0 ht1).mono fun e W' ⟨he, hb⟩ => ?_
  subst he
  exact ⟨_, rfl, _, _, _, [], _, [], hW', trodAll_mk1 (shut_bool Tryz.underlying4 _), trodAll_mk2 (stay_con h0 hb) (stay_cons h1 hb), rfl, hb.frame _, fun h => by cases h⟩

theorem tyconBinds_holds : Rows.TyconBindsSaid :=
  OpenClaim.holds_of_wide 4 Tryz.f4 rfl rfl rfl rfl rfl rfl rfl ⟨rfl, rfl, rfl, rfl, rfl⟩ rfl rfl rfl rfl rfl (by kernel_rfl) Tryz.func4 (by kernel_rfl)
    (of_decide_eq_true (by kernel_rfl)) (by unfold Func.isWrapper; first | (rw [if_pos (by decide +kernel)]; kernel_rfl) | (rw [if_neg (by decide +kernel)]; exact ⟨rfl, rfl⟩))
    (fun os started H enc _ => tyconBinds_lifted os started H enc)
#print axioms tyconBinds_holds
end Go.Proofs.YtpkgiemdnfbopaaGreat
