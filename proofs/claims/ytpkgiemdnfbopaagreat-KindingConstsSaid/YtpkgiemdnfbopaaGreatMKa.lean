/-
  Several texts in one (Jf Qo Ua Qp Qq Ra Ub Rb Rc Rd Re Rf Uc Ud).
-/
import Derived.Test.YtpkgiemdnfbopaaGreatJe
import Derived.Laws.MakeOwn
import Derived.Deep.RegionHeld3
import Derived.Test.YtpkgiemdnfbopaaGreatQn
import Derived.Test.YtpkgiemdnfbopaaGreatShelf
import Derived.Lib.IndexLaws
import Derived.StillTailTactics
namespace Go.Proofs.YtpkgiemdnfbopaaGreat
open Go Go.RowKit
open Pl (K)
set_option linter.unusedSimpArgs false

theorem arrow_replicate (n : Nat) : K.arrow (List.replicate n (.mk [])) (.mk []) = K.arity n := by
  induction n with
  | zero => rfl
  | succ n ih => rw [List.replicate_succ, K.arrow_cons, ih]; rfl
theorem arity_small (n : Nat) (h : n ≤ 100) : K.valid (K.arity n) = true := by
  have hs : K.size (.mk []) = 1 ∧ K.depth (.mk []) = 1 ∧ K.ok (.mk []) = true := by decide +kernel
  have : K.size (K.arity n) = 2 * n + 1 ∧ K.depth (K.arity n) = n + 1 ∧ K.ok (K.arity n) = true := by
    induction n with
    | zero => exact hs
    | succ n ih =>
      obtain ⟨h1, h2, h3⟩ := ih (by omega)
      have e : K.arity (n + 1) = .mk [.mk [], K.arity n] := rfl
      rw [e]
      refine ⟨?_, ?_, ?_⟩
      · rw [K.size_two, hs.1, h1]; omega
      · rw [K.depth, K.depths, K.depths, K.depths, hs.2.1, h2]; omega
      · rw [K.ok, K.oks, K.oks, K.oks, hs.2.2, h3]; rfl
  exact (K.valid_iff _).2 ⟨this.2.2, by omega, by omega⟩
theorem arrowOut_replicate (n : Nat) (h : n ≤ 100) : K.arrowOut (List.replicate n (.mk [])) (.mk []) = (K.arity n, 0) := by
  unfold K.arrowOut
  have h1 : (List.replicate n (K.mk [])).all K.valid = true := List.all_eq_true.2 (fun x hx => by rw [List.eq_of_mem_replicate hx]; decide +kernel)
  rw [h1, arrow_replicate, arity_small n h]
  rfl
theorem made_get (n j : Nat) (v : Value) (h : j < n) : (madeCells #[v] n)[j]? = some v := by
  unfold madeCells
  simp [h, Nat.mod_one]
/-- n zero kinds in a row -/
theorem stars_row (W : World) (b n : Nat) (cs : Array Value) (hcs : ∀ j, j < n → cs[j]? = some (.slice none 0 0)) (hn : n ≤ 100) (hb : Blk W b 24 cs) : KSl W (· < W.heap.size) (.slice (some ⟨b, 0, none⟩) n n) (List.replicate n (.mk [])) := by
  refine (kidV_iff _ _ _ _).2 ⟨_, n, by rw [List.length_replicate], by rw [List.length_replicate]; exact Nat.le_refl _, by unfold maxLen; omega, (fun h => by cases h), .inr ⟨b, 0, rfl, hb.lt, (kidsK_iff _ _ _ _ _).2 fun j hj => ?_⟩⟩
  rw [List.length_replicate] at hj
  refine ⟨.slice none 0 0, hb.cell (0 + j) _ (by rw [Nat.zero_add]; exact hcs j hj), ?_⟩
  rw [List.getElem_replicate]
  exact kidV_none _ _
/-- what Arity answers within its range -/
def ArityP (n B : Nat) (w : World) (e : Ending) (w' : World) : Prop := (∃ a m c, e = .returned (.tuple #[.agg #[.slice a m c], .int .i64 0]) ∧ KidV w' (From B w') (K.arity n) (.slice a m c)) ∧ Below w.heap.size w w'
theorem arrow_stars (W W2 : World) (b n : Nat) (cs : Array Value) (hcs : ∀ j, j < n → cs[j]? = some (.slice none 0 0)) (hn : n ≤ 100) (hb : Blk W b 24 cs) (hw : Below W.heap.size W W2) (B : Nat) (hB : B ≤ W.heap.size) :
    Calls Tryz.prog 112 #[.slice (some ⟨b, 0, none⟩) n n, .agg #[.slice none 0 0]] W2 (ArityP n B W2) := by
  have h := carrow_any (· < W2.heap.size) (List.replicate n (.mk [])) (.mk []) W2 _ _ (fun _ h => h) (stars_row W2 b n cs hcs hn (hb.of_eq (hw.block _ hb.lt))) (kV_none _ _)
  rw [arrowOut_replicate n hn] at h
  refine h.mono ?_
  rintro e w' ⟨⟨y, rfl, hy⟩, hb2⟩
  obtain ⟨a, c, rfl⟩ := hy.form
  exact ⟨⟨a, _, c, rfl, hy.kid.mono (fun q hq => ⟨Nat.le_trans (Nat.le_trans hB hw.size) hq.1, hq.2⟩)⟩, hb2⟩
set_option maxRecDepth 100000 in
set_option maxHeartbeats 1000000 in
theorem arity_in (n : Nat) (w : World) (hn : n ≤ 100) :
    Calls Tryz.prog 87 #[.int .i64 n] w (ArityP n w.heap.size w) := by
  obtain ⟨hbx, hb⟩ := box_new w 24 (.slice none 0 0)
  have HMK := Lib.hid (fun W => (show Sem.run Tryz.prog (Instr.makeSlice 22 (.int .i64 (n : Int)) (.int .i64 (n : Int))) W = .ok (.slice (some ⟨W.heap.size, 0, none⟩) n n) (W.alloc (.cells (madeCells #[.slice none 0 0] n) 24)) from by
    obtain ⟨i, hi, hz0, hz1, hz2⟩ := info3 infoKind
    have h := run_make (P := Tryz.prog) W 22 24 i _ Tryz.underlying22 hi hz0 .i64 .i64 n n (by omega) (Int.le_refl _) (by rw [hz2]; omega) (by omega)
    simp only [Int.toNat_natCast, hz1, Nat.mul_one] at h
    exact h))
  have HG := Lib.hid (fun j (hj : j < n) => made_get n j (.slice none 0 0) hj)
  generalize madeCells #[.slice none 0 0] n = cs at *
  have HB := Lib.hid hb
  have HBX := Lib.hid hbx
  clear hb hbx
  have q1 : decide ((n : Int) < 0) = false := decide_eq_false (by omega)
  have q2 : decide ((100 : Int) < (n : Int)) = false := decide_eq_false (by omega)
  go_enter Tryz.func87, Tryz.ntmps87
  go_wp2
  generalize w.alloc (.cells #[.slice none 0 0] 24) = w2 at *
  have HD0 := Lib.hid (Below.refl w2.heap.size w2).drew
  have HDA := Lib.hid (((Below.refl w2.heap.size w2).alloc (Nat.le_refl _) (.cells cs 24)).drew)
  have HSS := Lib.hid (fun W (hW : Below w2.heap.size w2 W) => (show Below w.heap.size w W ∧ W.cell? ⟨w.heap.size, 0, none⟩ = some (.slice none 0 0) from ⟨belowStep hW HB.out, (HBX.out.of_eq (hW.block _ HBX.out.lt)).cell 0 _ rfl⟩))
  have hmk := HMK.out
  have HA1 := Lib.hid (fun wn (h : Below (w2.alloc (.cells cs 24)).drew.heap.size (w2.alloc (.cells cs 24)).drew wn) => arrow_stars _ wn w2.heap.size n cs HG.out hn (blk_new w2 cs 24).drew h w2.heap.size (HDA.out.size))
  have HA2 := Lib.hid (fun wn (h : Below w2.heap.size w2 wn) => arrow_stars _ (wn.alloc (.cells cs 24)) wn.heap.size n cs HG.out hn (blk_new wn cs 24) (Below.refl _ _) w2.heap.size (Nat.le_trans h.size (by rw [size_alloc]; omega)))
  have HA3 := Lib.hid (fun wn (h : Below w2.heap.size w2 wn) => (show Below w2.heap.size w2 (wn.alloc (.cells cs 24)) from h.alloc h.size _))
  have HST := Lib.hid (fun W (hW : Below w2.heap.size w2 W) v => below_set (belowStep hW HB.out) (Nat.le_refl w.heap.size) v)
  go_region_held3 (fun W => Below w.heap.size w W)
    (first | exact belowStep HD0.out HB.out | exact belowStep HDA.out HB.out | exact belowStep (by assumption) HB.out | exact belowStep (HA3.out _ (by assumption)) HB.out | exact HST.out _ (by assumption) _)
    (first
    | (go_at_call 129; (with_reducible refine (star_any _).mono ?_); rintro e wn ⟨rfl, hbn⟩; have hbn2 := belowStep (a := w2) hbn (by first | assumption | exact HD0.out | exact HDA.out))
    | (go_at_call 112; (first | (with_reducible refine (HA2.out _ (by assumption)).mono ?_) | (with_reducible refine (HA1.out _ (by assumption)).mono ?_)); rintro e wk ⟨⟨ka, km, kc, rfl, hk⟩, hbk⟩; have hbk2 := belowStep (a := w2) hbk (by first | assumption | exact HA3.out _ (by assumption)); have hc9 := (HBX.out.of_eq (hbk2.block _ HBX.out.lt)).cell 0 _ rfl; have hf9 := (HBX.out.of_eq (hbk2.block _ HBX.out.lt)).thaw 0))
  all_goals (
    have HE1 := Lib.hid (blk_one (y := .slice ka km kc) (HBX.out.of_eq (hbk2.block _ HBX.out.lt)))
    have HE2 := Lib.hid (below_set (belowStep hbk2 HB.out) (Nat.le_refl w.heap.size) (.slice ka km kc))
    have HE3 := Lib.hid ((hk.keep (Same.set (w := wk) ⟨w.heap.size, 0, none⟩ (.slice ka km kc) (fun q h e => by
      have e : q = w.heap.size := e
      have := h.1
      have := HBX.out.lt
      omega))).mono (fun b h => (show From w.heap.size (wk.setCell ⟨w.heap.size, 0, none⟩ (.slice ka km kc)) b from ⟨Nat.le_trans HB.out.size h.1, by rw [size_set]; exact h.2⟩)))
    clear hk hbk hbk2 hc9 hf9 HA1 HA2 HA3 HST HSS hmk HMK
    generalize wk.setCell ⟨w.heap.size, 0, none⟩ (.slice ka km kc) = w9 at *
    go_wp2
    have d0 := HE1.out.cell 0 (.slice ka km kc) rfl
    refine bodyPost_ret (v := .tuple #[.agg #[.slice ka km kc], .int .i64 0]) (by simp [results, Tryz.results87, go_sem, d0]) rfl ?_
    exact ⟨⟨ka, km, kc, rfl, HE3.out⟩, HE2.out⟩)
end Go.Proofs.YtpkgiemdnfbopaaGreat
namespace Go.Proofs.YtpkgiemdnfbopaaGreat
open Go Go.RowKit
open Pl (K Con)
set_option linter.unusedSimpArgs false

mutual
/-- no variable in the gap of m behind f -/
def Con.gap (m : Int) : Con → Int → Bool
  | ⟨op, n, _, _, _, l⟩, f => if op = 1 then decide (n < f) || decide (f + m ≤ n) else Con.gaps m l (Con.deep op f)
def Con.gaps (m : Int) : List Con → Int → Bool
  | [], _ => true
  | t :: r, f => Con.gap m t f && Con.gaps m r f
end
theorem gaps_all (m f : Int) (l : List Con) : Con.gaps m l f = l.all (fun t => Con.gap m t f) := by
  induction l with
  | nil => rw [Con.gaps]; rfl
  | cons t r ih => rw [Con.gaps, ih]; rfl
theorem gap_var (m f : Int) (t : Con) (h : t.op = 1) : Con.gap m t f = (decide (t.n < f) || decide (f + m ≤ t.n)) := by
  obtain ⟨op, n, s, k, names, l⟩ := t
  have h : op = 1 := h
  rw [Con.gap, if_pos h]
theorem gap_node (m f : Int) (t : Con) (h : t.op ≠ 1) : Con.gap m t f = t.l.all (fun x => Con.gap m x (Con.deep t.op f)) := by
  obtain ⟨op, n, s, k, names, l⟩ := t
  have h : op ≠ 1 := h
  rw [Con.gap, if_neg h, gaps_all]
theorem gap_shift (t : Con) (m : Int) : ∀ f, 0 ≤ m → Con.gap m (Con.shift m t f) f = true := by
  induction t using Con.ind with
  | h t ih =>
  intro f hm
  by_cases h : t.op = 1
  · rw [Con.shift_var _ _ t h]
    by_cases h1 : f ≤ t.n
    · rw [if_pos h1, gap_var _ _ _ rfl]
      show (decide (t.n + m < f) || decide (f + m ≤ t.n + m)) = true
      rw [decide_eq_true (by omega : f + m ≤ t.n + m), Bool.or_true]
    · rw [if_neg h1, gap_var _ _ _ h, decide_eq_true (by omega : t.n < f), Bool.true_or]
  · rw [Con.shift_node _ _ t h, gap_node _ _ _ (show (Con.inside t _).op ≠ 1 from h)]
    show (t.l.map (fun x => Con.shift m x (Con.deep t.op f))).all (fun x => Con.gap m x (Con.deep t.op f)) = true
    rw [List.all_map, List.all_eq_true]
    exact fun x hx => ih x hx _ hm
theorem bytes_none {s : ByteArray} (h : s.toList = []) : s = ByteArray.empty := bytes_ext (h.trans (by rw [ByteArray.toList_eq]; rfl))
theorem kind_none {k : K} (h : k.l.length = 0) : k = .mk [] := by
  obtain ⟨l⟩ := k
  rw [List.eq_nil_of_length_eq_zero (show l.length = 0 from h)]
/-- a right variable is nothing but its index -/
theorem clean_node (t : Con) (h : Con.nodeB t = true) : Con.Clean t := by
  intro h1
  unfold Con.nodeB at h
  simp only [Bool.and_eq_true] at h
  obtain ⟨-, hs, -, hst, hk⟩ := h
  unfold Con.shapeB at hs
  unfold Con.strB at hst
  unfold Con.kindB at hk
  rw [h1] at hs hst hk
  rw [if_pos (by decide), Bool.and_eq_true, decide_eq_true_eq, decide_eq_true_eq] at hs
  rw [if_neg (by decide), decide_eq_true_eq] at hst
  rw [if_neg (by decide), decide_eq_true_eq] at hk
  have hl : t.l.length = 0 := by
    have := hs.1
    rw [show Con.partsOf 1 = 0 from rfl] at this
    omega
  obtain ⟨op, n, s, k, names, l⟩ := t
  have e1 : op = 1 := h1
  have e2 := bytes_none (s := s) hst
  have e3 := kind_none (k := k) hk
  have e4 : names = [] := List.eq_nil_of_length_eq_zero hs.2
  have e5 : l = [] := List.eq_nil_of_length_eq_zero hl
  subst e1 e2 e3 e4 e5
  rfl
theorem clean_all (t : Con) : Con.allB t = true → Con.clean t := by
  induction t using Con.ind with
  | h t ih =>
  intro h
  rw [allB_eq, Bool.and_eq_true, List.all_eq_true] at h
  exact (Con.clean_iff t).2 ⟨clean_node t h.1, fun x hx => ih x hx (h.2 x hx)⟩
theorem clean_valid (t : Con) (h : Con.validB t = true) : Con.clean t := by
  unfold Con.validB at h
  rw [Bool.and_eq_true] at h
  exact clean_all t h.2
/-- a result, or ErrBig -/
def outB (x : Con) : Con × Int := if Con.validB x then (x, 0) else (Con.none0, 6)
/-- what Shift answers -/
def shiftOut (t : Con) (b f : Int) : Con × Int :=
  if Con.validB t then (if f < 0 ∨ b < -20000 ∨ 20000 < b ∨ (b < 0 ∧ Con.gap (-b) t f = false) then (Con.none0, 2) else outB (Con.shift b t f)) else (Con.none0, 1)
/-- what Subst answers -/
def substOut (t : Con) (l : List Con) : Con × Int :=
  if Con.validB t && l.all Con.validB then (if 1000 < l.length then (Con.none0, 5) else outB (Con.subst l t 0)) else (Con.none0, 1)
theorem outB_cases (x : Con) : (Con.validB x = true ∧ outB x = (x, 0)) ∨ (Con.validB x = false ∧ outB x = (Con.none0, 6)) := by
  unfold outB
  cases h : Con.validB x
  · exact .inr ⟨rfl, if_neg (by simp)⟩
  · exact .inl ⟨rfl, if_pos rfl⟩
theorem shiftOut_up (t : Con) (b f : Int) (h : Con.validB t = true) (h0 : 0 ≤ b) (h1 : b ≤ 20000) (hf : 0 ≤ f) : shiftOut t b f = outB (Con.shift b t f) := by
  unfold shiftOut
  rw [if_pos h, if_neg (by omega)]
theorem shiftOut_back (t : Con) (b f : Int) (h : Con.validB t = true) (hs : Con.validB (Con.shift b t f) = true) (h0 : 0 ≤ b) (h1 : b ≤ 20000) (hf : 0 ≤ f) : shiftOut (Con.shift b t f) (-b) f = (t, 0) := by
  unfold shiftOut
  rw [if_pos hs, if_neg, Con.shift_back t b f h0 (clean_valid t h)]
  · unfold outB
    rw [if_pos h]
  · rintro (h2 | h2 | h2 | ⟨-, h2⟩)
    · omega
    · omega
    · omega
    · rw [show - -b = b from by omega, gap_shift t b f h0] at h2
      cases h2
theorem shiftOut_two (t : Con) (n m f : Int) (h : Con.validB t = true) (hs : Con.validB (Con.shift n t f) = true) (h0 : 0 ≤ n) (h1 : 0 ≤ m) (h2 : n + m ≤ 20000) (hf : 0 ≤ f) : shiftOut (Con.shift n t f) m f = shiftOut t (n + m) f := by
  rw [shiftOut_up _ m f hs h1 (by omega) hf, shiftOut_up t (n + m) f h (by omega) h2 hf, Con.shift_shift t m n f (n + f) h0 rfl f (by omega) (by omega)]
theorem substOut_up (t a : Con) (h : Con.validB t = true) (ha : Con.validB a = true) (hs : Con.validB (Con.shift 1 t 0) = true) : substOut (Con.shift 1 t 0) [a] = (t, 0) := by
  unfold substOut
  rw [hs, List.all_cons, ha, show (true && (true && ([] : List Con).all Con.validB)) = true from rfl, if_pos rfl, if_neg (by simp)]
  have := Con.subst_shift t a 0 0 (Int.le_refl _) (Int.le_refl _)
  rw [show (0 : Int) + 1 = 1 from rfl, show (0 : Int) + 0 = 0 from rfl, Con.shift_zero t 0 (clean_valid t h)] at this
  rw [this]
  unfold outB
  rw [if_pos h]
end Go.Proofs.YtpkgiemdnfbopaaGreat
namespace Go.Proofs.YtpkgiemdnfbopaaGreat
open Pl (K Con)
namespace Pl
/-- a kind, or a fault and its place -/
inductive KR where
  | ok (k : K)
  | bad (e : Int) (p : List Nat)
/-- kinds, or a fault and its place -/
inductive KS where
  | ok (l : List K)
  | bad (e : Int) (p : List Nat)
namespace KR
def kd : KR → K
  | ok k => k
  | bad _ _ => .mk []
def er : KR → Int
  | ok _ => 0
  | bad e _ => e
def pt : KR → List Nat
  | ok _ => []
  | bad _ p => p
end KR
def KS.pre (ks : List K) : KS → KS
  | .ok m => .ok (ks ++ m)
  | .bad e p => .bad e p
def KS.next (f : List K → KR) : KS → KR
  | .ok m => f m
  | .bad e p => .bad e p
/-- the kind of an application -/
def appK (f a : K) : KR :=
  match f with
  | .mk [x, y] => if K.eqv x a then .ok y else .bad 11 []
  | _ => .bad 11 []
/-- the kind of a node, its parts having these kinds -/
def ownK (r : List K) (op n : Int) (kd : K) (ks : List K) : KR :=
  if op = 1 then (match r[n.toNat]? with | some k => .ok k | none => .bad 10 [])
  else if op = 2 then .ok kd
  else if op = 11 then (if K.valid (.mk [kd, ks.getD 0 (.mk [])]) then .ok (.mk [kd, ks.getD 0 (.mk [])]) else .bad 6 [])
  else if op = 12 then appK (ks.getD 0 (.mk [])) (ks.getD 1 (.mk []))
  else if op = 13 then (if K.eqv kd (ks.getD 0 (.mk [])) then .ok kd else .bad 11 [])
  else if ks.all (fun k => k.l.length == 0) then .ok (.mk []) else .bad 11 []
/-- the scope of the parts -/
def inK (r : List K) (op : Int) (kd : K) : List K := if Con.binder op then kd :: r else r
mutual
def kof (r : List K) : Con → KR
  | ⟨op, n, _, kd, _, l⟩ => (kofs (inK r op kd) l 0).next (ownK r op n kd)
def kofs (r : List K) : List Con → Nat → KS
  | [], _ => .ok []
  | t :: rest, i => match kof r t with
    | .bad e p => .bad e (i :: p)
    | .ok k => (kofs r rest (i + 1)).pre [k]
end
theorem kof_eq (r : List K) (t : Con) : kof r t = (kofs (inK r t.op t.kind) t.l 0).next (ownK r t.op t.n t.kind) := by cases t; rw [kof]
theorem kofs_nil (r : List K) (i : Nat) : kofs r [] i = .ok [] := by rw [kofs]
theorem kofs_cons (r : List K) (t : Con) (rest : List Con) (i : Nat) : kofs r (t :: rest) i = (match kof r t with
    | .bad e p => .bad e (i :: p)
    | .ok k => (kofs r rest (i + 1)).pre [k]) := by rw [kofs]
theorem kofs_step (r : List K) (l : List Con) (k : Nat) (h : k < l.length) : kofs r (l.drop k) k = (match kof r l[k] with
    | .bad e p => .bad e (k :: p)
    | .ok x => (kofs r (l.drop (k + 1)) (k + 1)).pre [x]) := by rw [List.drop_eq_getElem_cons h, kofs_cons]
theorem KS.pre_pre (a b : List K) (s : KS) : (s.pre b).pre a = s.pre (a ++ b) := by cases s <;> simp [KS.pre]
theorem KS.pre_nil (s : KS) : s.pre [] = s := by cases s <;> rfl
/-- it is all of them that have kinds -/
theorem kofs_ok (r : List K) (l : List Con) : ∀ i ks, kofs r l i = .ok ks ↔ (ks.length = l.length ∧ ∀ j (h : j < l.length) (h2 : j < ks.length), kof r l[j] = .ok ks[j]) := by
  induction l with
  | nil =>
    intro i ks
    rw [kofs_nil]
    constructor
    · intro h
      injection h with h
      subst h
      exact ⟨rfl, fun j h => absurd h (Nat.not_lt_zero _)⟩
    · rintro ⟨h, -⟩
      rw [List.eq_nil_of_length_eq_zero h]
  | cons t rest ih =>
    intro i ks
    rw [kofs_cons]
    cases hk : kof r t with
    | bad e p =>
      refine ⟨fun h => (by cases h), fun ⟨h1, h2⟩ => ?_⟩
      have := h2 0 (Nat.zero_lt_succ _) (by rw [h1]; exact Nat.zero_lt_succ _)
      rw [List.getElem_cons_zero, hk] at this
      cases this
    | ok k =>
      constructor
      · intro h
        cases hr : kofs r rest (i + 1) with
        | bad e p => rw [hr] at h; cases h
        | ok m =>
          rw [hr] at h
          injection h with h
          subst h
          obtain ⟨h1, h2⟩ := (ih (i + 1) m).1 hr
          refine ⟨by simp [h1], fun j h3 h4 => ?_⟩
          cases j with
          | zero => simpa using hk
          | succ j => simpa using h2 j (by simpa using h3) (by simpa using h4)
      · rintro ⟨h1, h2⟩
        match ks, h1 with
        | x :: m, h1 =>
          have e := h2 0 (Nat.zero_lt_succ _) (Nat.zero_lt_succ _)
          rw [List.getElem_cons_zero, List.getElem_cons_zero, hk] at e
          injection e with e
          subst e
          have := (ih (i + 1) m).2 ⟨by simpa using h1, fun j h3 h4 => by
            have := h2 (j + 1) (by simpa using h3) (by simpa using h4)
            simpa using this⟩
          show (kofs r rest (i + 1)).pre [k] = _
          rw [this]
          rfl
/-- the first of them that has none -/
theorem kofs_bad (r : List K) (l : List Con) : ∀ i e p, kofs r l i = .bad e p → ∃ j q, ∃ h : j < l.length, p = (i + j) :: q ∧ kof r l[j] = .bad e q := by
  induction l with
  | nil => intro i e p h; rw [kofs_nil] at h; cases h
  | cons t rest ih =>
    intro i e p h
    rw [kofs_cons] at h
    cases hk : kof r t with
    | bad e' p' =>
      rw [hk] at h
      injection h with h1 h2
      subst h1 h2
      exact ⟨0, p', Nat.zero_lt_succ _, rfl, hk⟩
    | ok k =>
      rw [hk] at h
      cases hr : kofs r rest (i + 1) with
      | ok m => rw [hr] at h; cases h
      | bad e' p' =>
        rw [hr] at h
        injection h with h1 h2
        subst h1 h2
        obtain ⟨j, q, hj, h3, h4⟩ := ih _ _ _ hr
        exact ⟨j + 1, q, by simpa using hj, by rw [h3, show i + 1 + j = i + (j + 1) from by omega], by simpa using h4⟩
/-- a node that is no variable: the scope does not matter -/
theorem ownK_scope (r s : List K) (op n : Int) (kd : K) (ks : List K) (h : op ≠ 1) : ownK r op n kd ks = ownK s op n kd ks := by
  unfold ownK
  rw [if_neg h, if_neg h]
/-- the fault of a node is at the node -/
theorem ownK_bad {r : List K} {op n : Int} {kd : K} {ks : List K} {e : Int} {p : List Nat} (h : ownK r op n kd ks = .bad e p) : p = [] ∧ e ≠ 0 := by
  unfold ownK at h
  split at h
  · split at h
    · cases h
    · injection h with h1 h2; subst h1 h2; exact ⟨rfl, by decide⟩
  split at h
  · cases h
  split at h
  · split at h
    · cases h
    · injection h with h1 h2; subst h1 h2; exact ⟨rfl, by decide⟩
  split at h
  · unfold appK at h
    split at h
    · split at h
      · cases h
      · injection h with h1 h2; subst h1 h2; exact ⟨rfl, by decide⟩
    · injection h with h1 h2; subst h1 h2; exact ⟨rfl, by decide⟩
  split at h
  · split at h
    · cases h
    · injection h with h1 h2; subst h1 h2; exact ⟨rfl, by decide⟩
  split at h
  · cases h
  · injection h with h1 h2; subst h1 h2; exact ⟨rfl, by decide⟩
theorem valid_two (x y : K) (h : K.valid (.mk [x, y]) = true) : K.valid x = true ∧ K.valid y = true := by
  rw [K.valid_iff] at h
  obtain ⟨h1, h2, h3⟩ := h
  rw [K.ok, K.oks, K.oks, K.oks] at h1
  rw [K.size, K.sizes, K.sizes, K.sizes] at h2
  rw [K.depth, K.depths, K.depths, K.depths] at h3
  simp only [Bool.and_eq_true] at h1
  exact ⟨(K.valid_iff x).2 ⟨h1.2.1, by omega, by omega⟩, (K.valid_iff y).2 ⟨h1.2.2.1, by omega, by omega⟩⟩
theorem valid_star : K.valid (.mk []) = true := by decide +kernel
/-- what is found is valid -/
theorem ownK_valid {r : List K} {op n : Int} {kd : K} {ks : List K} {k : K} (hr : ∀ x ∈ r, K.valid x = true) (hd : K.valid kd = true) (hs : ∀ x ∈ ks, K.valid x = true) (h : ownK r op n kd ks = .ok k) : K.valid k = true := by
  have hg : ∀ i, K.valid (ks.getD i (.mk [])) = true := by
    intro i
    rw [List.getD_eq_getElem?_getD]
    cases hx : ks[i]? with
    | none => exact valid_star
    | some x => exact hs x (List.mem_of_getElem? hx)
  unfold ownK at h
  split at h
  · split at h
    · next k' hk => injection h with h; subst h; exact hr _ (List.mem_of_getElem? hk)
    · cases h
  split at h
  · injection h with h; subst h; exact hd
  split at h
  · split at h
    · next hv => injection h with h; subst h; exact hv
    · cases h
  split at h
  · unfold appK at h
    split at h
    · next x y hxy =>
      split at h
      · injection h with h; subst h
        have := hg 0
        rw [hxy] at this
        exact (valid_two x y this).2
      · cases h
    · cases h
  split at h
  · split at h
    · injection h with h; subst h; exact hd
    · cases h
  split at h
  · injection h with h; subst h; exact valid_star
  · cases h
end Pl
theorem kind_valid (t : Con) (h : Con.nodeB t = true) : K.valid t.kind = true := by
  unfold Con.nodeB at h
  simp only [Bool.and_eq_true] at h
  obtain ⟨-, -, -, -, hk⟩ := h
  unfold Con.kindB at hk
  split at hk
  · exact hk
  · rw [decide_eq_true_eq] at hk
    rw [kind_none hk]
    decide +kernel
open Pl (KR KS kof kofs ownK inK)
theorem inK_valid {r : List K} {op : Int} {kd : K} (hr : ∀ x ∈ r, K.valid x = true) (hd : K.valid kd = true) : ∀ x ∈ inK r op kd, K.valid x = true := by
  unfold inK
  split
  · intro x hx
    rcases List.mem_cons.1 hx with rfl | hx
    · exact hd
    · exact hr x hx
  · exact hr
theorem kof_valid (t : Con) : ∀ (r : List K) (k : K), Con.allB t = true → (∀ x ∈ r, K.valid x = true) → kof r t = .ok k → K.valid k = true := by
  induction t using Con.ind with
  | h t ih =>
  intro r k ha hr h
  rw [allB_eq, Bool.and_eq_true, List.all_eq_true] at ha
  rw [Pl.kof_eq] at h
  have hkv := kind_valid t ha.1
  cases hs : kofs (inK r t.op t.kind) t.l 0 with
  | bad e p => rw [hs] at h; cases h
  | ok ks =>
    rw [hs] at h
    obtain ⟨h1, h2⟩ := (Pl.kofs_ok _ _ _ _).1 hs
    refine Pl.ownK_valid hr hkv (fun x hx => ?_) h
    obtain ⟨j, hj, rfl⟩ := List.getElem_of_mem hx
    exact ih _ (List.getElem_mem (by omega)) _ _ (ha.2 _ (List.getElem_mem (by omega))) (inK_valid hr hkv) (h2 j (by omega) hj)
theorem kof_bad (t : Con) : ∀ (r : List K) (e : Int) (p : List Nat), kof r t = .bad e p → e ≠ 0 := by
  induction t using Con.ind with
  | h t ih =>
  intro r e p h
  rw [Pl.kof_eq] at h
  cases hs : kofs (inK r t.op t.kind) t.l 0 with
  | bad e' p' =>
    rw [hs] at h
    injection h with h1 h2
    subst h1 h2
    obtain ⟨j, q, hj, -, h4⟩ := Pl.kofs_bad _ _ _ _ _ hs
    exact ih _ (List.getElem_mem hj) _ _ _ h4
  | ok ks =>
    rw [hs] at h
    exact (Pl.ownK_bad h).2
theorem node_facts10 (t : Con) (h : Con.nodeB t = true) : K.valid t.kind = true ∧ t.names.length ≤ 1000 ∧ t.l.length ≤ 1000 := by
  unfold Con.nodeB at h
  simp only [Bool.and_eq_true] at h
  obtain ⟨-, hs, -, -, hk⟩ := h
  refine ⟨?_, ?_⟩
  · unfold Con.kindB at hk
    split at hk
    · exact hk
    · rw [decide_eq_true_eq] at hk
      rw [kind_none hk]
      decide +kernel
  · unfold Con.shapeB at hs
    split at hs
    · rw [Bool.and_eq_true, decide_eq_true_eq, decide_eq_true_eq] at hs
      have hp : Con.partsOf t.op ≤ 2 := by
        unfold Con.partsOf
        split
        · omega
        · split
          · omega
          · split <;> omega
      omega
    · rw [Bool.and_eq_true, decide_eq_true_eq] at hs
      have h2 := hs.2
      unfold Con.labelsOk at h2
      simp only [Bool.and_eq_true, decide_eq_true_eq] at h2
      omega
/-- what Of answers -/
def ofOut (g : List K) (t : Con) : KR := if decide (g.length ≤ 1000) && (g.all K.valid && Con.validB t) then kof g.reverse t else .bad 1 []
end Go.Proofs.YtpkgiemdnfbopaaGreat
namespace Go.Proofs.YtpkgiemdnfbopaaGreat
open Go Go.RowKit
open Pl (K Con)
set_option linter.unusedSimpArgs false

/-- what the program's Shift and Subst answer -/
structure CodeS9 : Prop where
  shift : ∀ (t : Con) (b f : Int) (W : World) (v : Value), ConV W (· < W.heap.size) t v → -9223372036854775808 ≤ b → b ≤ 9223372036854775807 → -9223372036854775808 ≤ f → f ≤ 9223372036854775807 → Calls Tryz.prog 44 #[v, .int .i64 b, .int .i64 f] W fun e w' => (∃ y, e = .returned (.tuple #[y, .int .i64 (shiftOut t b f).2]) ∧ ConV w' (· < w'.heap.size) (shiftOut t b f).1 y) ∧ Below W.heap.size W w'
  subst : ∀ (t : Con) (l : List Con) (W : World) (v x : Value), ConV W (· < W.heap.size) t v → ConSl W (· < W.heap.size) x l → Calls Tryz.prog 45 #[v, x] W fun e w' => (∃ y, e = .returned (.tuple #[y, .int .i64 (substOut t l).2]) ∧ ConV w' (· < w'.heap.size) (substOut t l).1 y) ∧ Below W.heap.size W w'
/-- a constructor in a box stays -/
theorem ConV.grow {w w' : World} {t : Con} {v : Value} (h : ConV w (· < w.heap.size) t v) (hb : Below w.heap.size w w') : ConV w' (· < w'.heap.size) t v := (h.below (fun _ h => h) hb).mono (fun _ h => Nat.lt_of_lt_of_le h hb.size)
/-- one constructor in a slice -/
theorem cons_one {w : World} {P : Nat → Prop} {g : Nat} {t : Con} {x0 x1 x2 x3 x4 x5 : Value} (hb : Blk w g 28 #[x0, x1, x2, x3, x4, x5]) (hg : P g) (ht : ConV w P t (.agg #[x0, x1, x2, x3, x4, x5])) : ConSl w P (.slice (some ⟨g, 0, none⟩) 1 1) [t] := by
  refine ⟨_, 1, rfl, by simp, by unfold maxLen; omega, (fun h => by cases h), .inr ⟨g, 0, rfl, hg, ?_⟩⟩
  rw [ConsAt, ConsAt]
  exact ⟨⟨_, ⟨x0, x1, x2, x3, x4, x5, rfl, hb.cell 0 _ rfl, hb.cell 1 _ rfl, hb.cell 2 _ rfl, hb.cell 3 _ rfl, hb.cell 4 _ rfl, hb.cell 5 _ rfl⟩, ht⟩, trivial⟩
end Go.Proofs.YtpkgiemdnfbopaaGreat
namespace Go.Proofs.YtpkgiemdnfbopaaGreat
open Go Go.RowKit
open Pl (K Con)
set_option linter.unusedSimpArgs false

theorem depth_le_size (t : Con) : t.depth ≤ t.size := by
  induction t using Con.ind with
  | h t ih =>
    rw [Con.depth_eq, Con.size_eq]
    have : ∀ l : List Con, (∀ x ∈ l, x.depth ≤ x.size) → Con.depths l ≤ Con.sizes l := by
      intro l
      induction l with
      | nil => intro _; rw [Con.depths_nil]; exact Nat.zero_le _
      | cons x r ihr =>
        intro h
        rw [Con.depths_cons, Con.sizes_cons]
        have := h x List.mem_cons_self
        have := ihr (fun y hy => h y (List.mem_cons_of_mem _ hy))
        omega
    have := this t.l ih
    omega
/-- a function of constructors -/
def lam (t : Con) : Con := ⟨11, 0, ByteArray.empty, .mk [], [], [t]⟩
theorem lam_valid (t : Con) (h : Con.Tiny9 t) : Con.validB (lam t) = true := by
  obtain ⟨h1, h2⟩ := h
  have hs := size_le_wt t
  have hd := depth_le_size t
  unfold Con.validB at h2 ⊢
  rw [Bool.and_eq_true] at h2 ⊢
  constructor
  · unfold Con.small
    rw [Con.size_eq, Con.depth_eq]
    show (decide (1 + Con.sizes [t] ≤ 20000) && decide (1 + Con.depths [t] ≤ 400)) = true
    rw [Con.sizes_cons, Con.sizes_nil, Con.depths_cons, Con.depths_nil, decide_eq_true (by omega), decide_eq_true (by omega)]
    rfl
  · rw [allB_eq, Bool.and_eq_true]
    refine ⟨?_, ?_⟩
    · have hk : K.valid (.mk []) = true := by decide +kernel
      have he : ByteArray.empty.toList = [] := by rw [ByteArray.toList_eq]; rfl
      have e1 : Con.shapeB (lam t) = true := by simp [Con.shapeB, lam, Con.partsOf, Con.binder]
      have e2 : Con.numB (lam t) = true := by simp [Con.numB, lam]
      have e3 : Con.strB (lam t) = true := by simp [Con.strB, lam, he]
      have e4 : Con.kindB (lam t) = true := by simp [Con.kindB, lam, Con.binder, hk]
      have e5 : (decide (1 ≤ (lam t).op) && decide ((lam t).op ≤ 13)) = true := by simp [lam]
      unfold Con.nodeB
      rw [e1, e2, e3, e4, e5]
      rfl
    · show [t].all Con.allB = true
      rw [List.all_cons, h2.2]; rfl
theorem part_valid (t x : Con) (h : Con.validB t = true) (hx : x ∈ t.l) : Con.validB x = true := by
  unfold Con.validB at h ⊢
  rw [Bool.and_eq_true] at h ⊢
  have h1 := h.1
  unfold Con.small at h1 ⊢
  rw [Bool.and_eq_true, decide_eq_true_eq, decide_eq_true_eq, Con.size_eq, Con.depth_eq] at h1
  have hs := Con.mem_size hx
  have hd := Con.mem_depth hx
  refine ⟨by rw [decide_eq_true (by omega : x.size ≤ 20000), decide_eq_true (by omega : x.depth ≤ 400)]; rfl, ?_⟩
  have h2 := h.2
  rw [allB_eq, Bool.and_eq_true, List.all_eq_true] at h2
  exact h2.2 x hx
theorem substOut_ok (t : Con) (l : List Con) (h : Con.validB t = true) (hl : ∀ x ∈ l, Con.validB x = true) (hn : l.length ≤ 1000) : substOut t l = outB (Con.subst l t 0) := by
  unfold substOut
  rw [h, List.all_eq_true.2 hl, show (true && true) = true from rfl, if_pos rfl, if_neg (by omega)]
theorem subst_lam (t : Con) (l : List Con) : Con.subst l (lam t) 0 = lam (Con.subst l t 1) := by
  rw [Con.subst_node _ _ _ (show (lam t).op ≠ 1 from (by decide : (11 : Int) ≠ 1))]
  rfl
/-- both ways -/
theorem commute_out (t a : Con) (l : List Con) (h1 : Con.validB (Con.subst [a] t 0) = true) (h2 : Con.validB (Con.subst l a 0) = true) (h3 : Con.validB (lam (Con.subst l t 1)) = true) (hl : ∀ x ∈ l, Con.validB x = true) (hn : l.length ≤ 1000) :
    substOut (Con.subst [a] t 0) l = substOut (Con.subst l t 1) [Con.subst l a 0] := by
  have h4 : Con.validB (Con.subst l t 1) = true := part_valid _ _ h3 (by simp [lam])
  rw [substOut_ok _ l h1 hl hn, substOut_ok _ [Con.subst l a 0] h4 (fun x hx => by rw [List.mem_singleton.1 hx]; exact h2) (by simp), Con.subst_subst t a l 0 (Int.le_refl _)]
  rfl
set_option maxRecDepth 100000 in
theorem rbound_any (t : Con) (w : World) (v : Value) (ht : ConV w (· < w.heap.size) t v) :
    Calls Tryz.prog 40 #[.int .i64 11, .agg #[.slice none 0 0], v] w fun e w' => (∃ g, e = .returned (.agg #[.int .i64 11, .int .i64 0, .string ByteArray.empty, .slice none 0 0, .slice none 0 0, .slice (some ⟨g, 0, none⟩) 1 1]) ∧ ConV w' (· < w'.heap.size) (lam t) (.agg #[.int .i64 11, .int .i64 0, .string ByteArray.empty, .slice none 0 0, .slice none 0 0, .slice (some ⟨g, 0, none⟩) 1 1])) ∧ Below w.heap.size w w' := by
  have HT := Lib.hid (fun W (hW : Below w.heap.size w W) => ht.grow hW)
  obtain ⟨ka, kn, kc, na, nn, nc, la, ln, lc, rfl, -, -, -⟩ := ht.shape
  clear ht
  go_enter Tryz.func40, Tryz.ntmps40
  have hX : Below w.heap.size w (((w.alloc (.cells #[.slice none 0 0] 24)).alloc (.cells #[.int .i64 t.op, .int .i64 t.n, .string t.s, .slice ka kn kc, .slice na nn nc, .slice la ln lc] 28)).alloc (.cells #[.int .i64 11, .int .i64 0, .string ByteArray.empty, .slice none 0 0, .slice none 0 0, .slice (some ⟨w.heap.size + 1 + 1 + 1, 0, none⟩) 1 1] 28)) := below_new (below_new (below_new (Below.refl _ _)))
  have hs : (((w.alloc (.cells #[.slice none 0 0] 24)).alloc (.cells #[.int .i64 t.op, .int .i64 t.n, .string t.s, .slice ka kn kc, .slice na nn nc, .slice la ln lc] 28)).alloc (.cells #[.int .i64 11, .int .i64 0, .string ByteArray.empty, .slice none 0 0, .slice none 0 0, .slice (some ⟨w.heap.size + 1 + 1 + 1, 0, none⟩) 1 1] 28)).heap.size = w.heap.size + 1 + 1 + 1 := by rw [size_alloc, size_alloc, size_alloc]
  obtain ⟨hbx, hb⟩ := boxN_new (((w.alloc (.cells #[.slice none 0 0] 24)).alloc (.cells #[.int .i64 t.op, .int .i64 t.n, .string t.s, .slice ka kn kc, .slice na nn nc, .slice la ln lc] 28)).alloc (.cells #[.int .i64 11, .int .i64 0, .string ByteArray.empty, .slice none 0 0, .slice none 0 0, .slice (some ⟨w.heap.size + 1 + 1 + 1, 0, none⟩) 1 1] 28)) 28 #[.int .i64 t.op, .int .i64 t.n, .string t.s, .slice ka kn kc, .slice na nn nc, .slice la ln lc]
  have hr := (blk_new ((w.alloc (.cells #[.slice none 0 0] 24)).alloc (.cells #[.int .i64 t.op, .int .i64 t.n, .string t.s, .slice ka kn kc, .slice na nn nc, .slice la ln lc] 28)) #[.int .i64 11, .int .i64 0, .string ByteArray.empty, .slice none 0 0, .slice none 0 0, .slice (some ⟨w.heap.size + 1 + 1 + 1, 0, none⟩) 1 1] 28).alloc (.cells #[.int .i64 t.op, .int .i64 t.n, .string t.s, .slice ka kn kc, .slice na nn nc, .slice la ln lc] 28)
  rw [size_alloc, size_alloc] at hr
  have d0 := hr.cell 0 (.int .i64 11) rfl
  have d1 := hr.cell 1 (.int .i64 0) rfl
  have d2 := hr.cell 2 (.string ByteArray.empty) rfl
  have d3 := hr.cell 3 (.slice none 0 0) rfl
  have d4 := hr.cell 4 (.slice none 0 0) rfl
  have d5 := hr.cell 5 (.slice (some ⟨w.heap.size + 1 + 1 + 1, 0, none⟩) 1 1) rfl
  have HB := Lib.hid (belowStep hb hX)
  rw [hs] at hbx
  have HBX := Lib.hid hbx
  clear hbx hb hX hs hr
  go_wp2_with fail
  refine bodyPost_ret (v := .agg #[.int .i64 11, .int .i64 0, .string ByteArray.empty, .slice none 0 0, .slice none 0 0, .slice (some ⟨w.heap.size + 1 + 1 + 1, 0, none⟩) 1 1]) (by first | (simp [results, Tryz.results40, go_sem, d0, d1, d2, d3, d4, d5]; done) | (simp [results, Tryz.results40, go_sem, d0, d1, d2, d3, d4, d5]; rfl)) rfl ?_
  refine ⟨⟨w.heap.size + 1 + 1 + 1, rfl, ?_⟩, HB.out⟩
  rw [conV_iff]
  refine ⟨Nat.zero_le _, _, _, _, rfl, kidV_none _ _, ⟨none, 0, rfl, Nat.le_refl _, Nat.zero_le _, fun _ => rfl, (fun z hz => by cases hz), .inl rfl⟩, ?_⟩
  exact cons_one HBX.out HBX.out.lt (HT.out _ HB.out)
end Go.Proofs.YtpkgiemdnfbopaaGreat
namespace Go.Proofs.YtpkgiemdnfbopaaGreat
open Go Go.RowKit
open Pl (K Con)
set_option linter.unusedSimpArgs false

mutual
/-- a change of the free variables and the constants -/
def Con.reb (F : Con → Int → Con) : Con → Int → Con
  | ⟨op, n, s, k, names, l⟩, d => if op = 2 ∨ (op = 1 ∧ d ≤ n) then F ⟨op, n, s, k, names, l⟩ d else ⟨op, n, s, k, names, Con.rebs F l (Con.deep op d)⟩
def Con.rebs (F : Con → Int → Con) : List Con → Int → List Con
  | [], _ => []
  | t :: r, d => Con.reb F t d :: Con.rebs F r d
end
theorem rebs_map (F : Con → Int → Con) (d : Int) (l : List Con) : Con.rebs F l d = l.map (fun t => Con.reb F t d) := by
  induction l with
  | nil => rw [Con.rebs]; rfl
  | cons t r ih => rw [Con.rebs, ih]; rfl
/-- what is changed -/
def Con.leafy (t : Con) (d : Int) : Prop := t.op = 2 ∨ (t.op = 1 ∧ d ≤ t.n)
theorem reb_leaf (F : Con → Int → Con) (t : Con) (d : Int) (h : Con.leafy t d) : Con.reb F t d = F t d := by
  obtain ⟨op, n, s, k, names, l⟩ := t
  have h : op = 2 ∨ (op = 1 ∧ d ≤ n) := h
  rw [Con.reb, if_pos h]
theorem reb_node (F : Con → Int → Con) (t : Con) (d : Int) (h : ¬ Con.leafy t d) : Con.reb F t d = Con.inside t (t.l.map (fun x => Con.reb F x (Con.deep t.op d))) := by
  obtain ⟨op, n, s, k, names, l⟩ := t
  have h : ¬ (op = 2 ∨ (op = 1 ∧ d ≤ n)) := h
  rw [Con.reb, if_neg h, rebs_map]
  rfl
mutual
/-- no index is greater than the greatest -/
def Con.nOk : Con → Bool
  | ⟨_, n, _, _, _, l⟩ => decide (n ≤ 20000) && Con.nOks l
def Con.nOks : List Con → Bool
  | [] => true
  | t :: r => Con.nOk t && Con.nOks r
end
theorem nOks_all (l : List Con) : Con.nOks l = l.all Con.nOk := by
  induction l with
  | nil => rw [Con.nOks]; rfl
  | cons t r ih => rw [Con.nOks, ih]; rfl
theorem nOk_eq (t : Con) : Con.nOk t = (decide (t.n ≤ 20000) && t.l.all Con.nOk) := by
  obtain ⟨op, n, s, k, names, l⟩ := t
  rw [Con.nOk, nOks_all]
/-- within the limits, with so many nodes left, at a depth -/
def fitB (t : Con) (L d : Int) : Bool := decide ((t.size : Int) ≤ L) && (decide (d + (t.depth : Int) ≤ 401) && Con.nOk t)
def fitsB (l : List Con) (L d : Int) : Bool := decide ((Con.sizes l : Int) ≤ L) && (decide (d + (Con.depths l : Int) ≤ 401) && l.all Con.nOk)
theorem fitB_node (t : Con) (L d : Int) : fitB t L d = ((decide (1 ≤ L) && (decide (d ≤ 400) && decide (t.n ≤ 20000))) && fitsB t.l (L - 1) (d + 1)) := by
  unfold fitB fitsB
  rw [Con.size_eq, Con.depth_eq, nOk_eq, Bool.eq_iff_iff]
  simp only [Bool.and_eq_true, decide_eq_true_eq]
  constructor
  · rintro ⟨h1, h2, h3, h4⟩
    exact ⟨⟨by omega, by omega, h3⟩, by omega, by omega, h4⟩
  · rintro ⟨⟨h1, h2, h3⟩, h4, h5, h6⟩
    exact ⟨by omega, by omega, h3, h6⟩
theorem fitsB_nil (L d : Int) : fitsB [] L d = (decide (0 ≤ L) && decide (d ≤ 401)) := by
  unfold fitsB
  rw [Con.sizes_nil, Con.depths_nil]
  simp
theorem fitsB_take (l : List Con) (k : Nat) (hk : k < l.length) (L d : Int) : fitsB (l.take (k + 1)) L d = (fitsB (l.take k) L d && fitB l[k] (L - (Con.sizes (l.take k) : Int)) d) := by
  unfold fitsB fitB
  rw [Con.sizes_take l k hk, Con.depths_take l k hk, all_take_step Con.nOk l k hk, Bool.eq_iff_iff]
  simp only [Bool.and_eq_true, decide_eq_true_eq]
  constructor
  · rintro ⟨h1, h2, h3, h4⟩
    exact ⟨⟨by omega, by omega, h3⟩, by omega, by omega, h4⟩
  · rintro ⟨⟨h1, h2, h3⟩, h4, h5, h6⟩
    exact ⟨by omega, by omega, h3, h6⟩
theorem fitsB_le (l : List Con) (k : Nat) (L d : Int) (h : fitsB (l.take k) L d = false) : fitsB l L d = false := by
  cases h2 : fitsB l L d
  · rfl
  · rw [← h]
    unfold fitsB at h2 ⊢
    simp only [Bool.and_eq_true, decide_eq_true_eq] at h2
    obtain ⟨h3, h4, h5⟩ := h2
    have h6 := Con.sizes_le l k
    have h7 := Con.depths_le l k
    symm
    simp only [Bool.and_eq_true, decide_eq_true_eq]
    refine ⟨by omega, by omega, ?_⟩
    rw [List.all_eq_true] at h5 ⊢
    exact fun x hx => h5 x (List.mem_of_mem_take hx)
mutual
/-- right, but for an index that may be too great -/
def Con.half : Con → Prop
  | ⟨op, n, s, k, names, l⟩ => (n ≤ 20000 → Con.nodeB ⟨op, n, s, k, names, l⟩ = true) ∧ Con.halfs l
def Con.halfs : List Con → Prop
  | [] => True
  | t :: r => Con.half t ∧ Con.halfs r
end
theorem halfs_iff (l : List Con) : Con.halfs l ↔ ∀ x ∈ l, Con.half x := by
  induction l with
  | nil => rw [Con.halfs]; simp
  | cons t r ih => rw [Con.halfs, ih]; simp
theorem half_iff (t : Con) : Con.half t ↔ (t.n ≤ 20000 → Con.nodeB t = true) ∧ ∀ x ∈ t.l, Con.half x := by
  obtain ⟨op, n, s, k, names, l⟩ := t
  rw [Con.half, halfs_iff]
theorem nodeB_n (t : Con) (h : Con.nodeB t = true) : 0 ≤ t.n ∧ t.n ≤ 20000 := by
  unfold Con.nodeB at h
  simp only [Bool.and_eq_true] at h
  have h := h.2.2.1
  unfold Con.numB at h
  split at h
  · rw [Bool.and_eq_true, decide_eq_true_eq, decide_eq_true_eq] at h
    exact h
  · rw [decide_eq_true_eq] at h
    omega
theorem nOk_all (t : Con) : Con.allB t = true → Con.nOk t = true := by
  induction t using Con.ind with
  | h t ih =>
  intro h
  rw [allB_eq, Bool.and_eq_true, List.all_eq_true] at h
  rw [nOk_eq, Bool.and_eq_true, List.all_eq_true, decide_eq_true_eq]
  exact ⟨(nodeB_n t h.1).2, fun x hx => ih x hx (h.2 x hx)⟩
theorem half_all (t : Con) : Con.half t → Con.nOk t = true → Con.allB t = true := by
  induction t using Con.ind with
  | h t ih =>
  intro h hn
  rw [half_iff] at h
  rw [nOk_eq, Bool.and_eq_true, List.all_eq_true, decide_eq_true_eq] at hn
  rw [allB_eq, Bool.and_eq_true, List.all_eq_true]
  exact ⟨h.1 hn.1, fun x hx => ih x hx (h.2 x hx) (hn.2 x hx)⟩
/-- well-formed just if within the limits -/
theorem half_valid (t : Con) (h : Con.half t) : Con.validB t = fitB t 20000 1 := by
  unfold Con.validB fitB Con.small
  rw [Bool.eq_iff_iff]
  simp only [Bool.and_eq_true, decide_eq_true_eq]
  constructor
  · rintro ⟨⟨h1, h2⟩, h3⟩
    exact ⟨by omega, by omega, nOk_all t h3⟩
  · rintro ⟨h1, h2, h3⟩
    exact ⟨⟨by omega, by omega⟩, half_all t h h3⟩
theorem half_of_all (t : Con) : Con.allB t = true → Con.half t := by
  induction t using Con.ind with
  | h t ih =>
  intro h
  rw [allB_eq, Bool.and_eq_true, List.all_eq_true] at h
  rw [half_iff]
  exact ⟨fun _ => h.1, fun x hx => ih x hx (h.2 x hx)⟩
/-- a leaf has no parts -/
theorem leaf_none (t : Con) (h : Con.nodeB t = true) (h2 : t.op = 1 ∨ t.op = 2) : t.l = [] := by
  unfold Con.nodeB at h
  simp only [Bool.and_eq_true] at h
  have h := h.2.1
  unfold Con.shapeB at h
  have hp : Con.partsOf t.op = 0 := by rcases h2 with h2 | h2 <;> rw [h2] <;> rfl
  rw [hp, if_pos (by decide), Bool.and_eq_true, decide_eq_true_eq] at h
  exact List.eq_nil_of_length_eq_zero (by omega)
/-- the change of a shift -/
def shF (b f : Int) (t : Con) (d : Int) : Con := if t.op = 1 ∧ f ≤ t.n - d then ⟨t.op, t.n + b, t.s, t.kind, t.names, t.l⟩ else t
theorem reb_shift (b f : Int) (hf : 0 ≤ f) (t : Con) : ∀ d, Con.allB t = true → Con.reb (shF b f) t d = Con.shift b t (d + f) := by
  induction t using Con.ind with
  | h t ih =>
  intro d ha
  rw [allB_eq, Bool.and_eq_true, List.all_eq_true] at ha
  obtain ⟨hn, ha⟩ := ha
  by_cases h1 : t.op = 1
  · have hc := clean_node t hn h1
    have hl := leaf_none t hn (.inl h1)
    rw [Con.shift_var _ _ t h1]
    by_cases h2 : d ≤ t.n
    · rw [reb_leaf _ _ _ (.inr ⟨h1, h2⟩)]
      unfold shF
      by_cases h3 : f ≤ t.n - d
      · rw [if_pos ⟨h1, h3⟩, if_pos (by omega)]
        obtain ⟨op, n, s, k, names, l⟩ := t
        have hc : (⟨op, n, s, k, names, l⟩ : Con) = ⟨1, n, ByteArray.empty, .mk [], [], []⟩ := hc
        injection hc with e1 e2 e3 e4 e5 e6
        subst e1 e3 e4 e5 e6
        rfl
      · rw [if_neg (fun h => h3 h.2), if_neg (by omega)]
    · rw [reb_node _ _ _ (fun h => by rcases h with h | h <;> omega), hl, if_neg (by omega)]
      conv => rhs; rw [← Con.inside_self t, hl]
      rfl
  · by_cases h2 : t.op = 2
    · have hl := leaf_none t hn (.inr h2)
      rw [reb_leaf _ _ _ (.inl h2), Con.shift_node _ _ t h1, hl]
      unfold shF
      rw [if_neg (fun h => h1 h.1)]
      conv => lhs; rw [← Con.inside_self t, hl]
      rfl
    · rw [reb_node _ _ _ (fun h => by rcases h with h | h <;> omega), Con.shift_node _ _ t h1]
      congr 1
      refine List.map_congr_left (fun x hx => ?_)
      rw [ih x hx _ (ha x hx), Con.deep_add]
/-- the change of a substitution -/
def suF (ts : List Con) (t : Con) (d : Int) : Con := if t.op = 1 then (if t.n - d < ts.length then Con.reb (shF d 0) (ts.getD (t.n - d).toNat Con.none0) 0 else ⟨t.op, t.n - ts.length, t.s, t.kind, t.names, t.l⟩) else t
theorem getD_mem {α : Type} (l : List α) (k : Nat) (z : α) (h : k < l.length) : l.getD k z ∈ l := by
  have e : l.getD k z = l[k] := by simp [List.getD, List.getElem?_eq_getElem h]
  rw [e]
  exact List.getElem_mem h
theorem reb_subst (ts : List Con) (hts : ∀ x ∈ ts, Con.allB x = true) (t : Con) : ∀ d, Con.allB t = true → Con.reb (suF ts) t d = Con.subst ts t d := by
  induction t using Con.ind with
  | h t ih =>
  intro d ha
  rw [allB_eq, Bool.and_eq_true, List.all_eq_true] at ha
  obtain ⟨hn, ha⟩ := ha
  by_cases h1 : t.op = 1
  · have hc := clean_node t hn h1
    have hl := leaf_none t hn (.inl h1)
    rw [Con.subst_var _ _ t h1]
    by_cases h2 : d ≤ t.n
    · rw [reb_leaf _ _ _ (.inr ⟨h1, h2⟩), if_neg (by omega)]
      unfold suF
      rw [if_pos h1]
      by_cases h3 : t.n - d < (ts.length : Int)
      · rw [if_pos h3, if_pos h3, reb_shift d 0 (Int.le_refl _) _ _ (hts _ (getD_mem _ _ _ (by omega)))]
        rw [Int.add_zero]
      · rw [if_neg h3, if_neg h3]
        obtain ⟨op, n, s, k, names, l⟩ := t
        have hc : (⟨op, n, s, k, names, l⟩ : Con) = ⟨1, n, ByteArray.empty, .mk [], [], []⟩ := hc
        injection hc with e1 e2 e3 e4 e5 e6
        subst e1 e3 e4 e5 e6
        rfl
    · rw [reb_node _ _ _ (fun h => by rcases h with h | h <;> omega), hl, if_pos (by omega)]
      conv => rhs; rw [← Con.inside_self t, hl]
      rfl
  · by_cases h2 : t.op = 2
    · have hl := leaf_none t hn (.inr h2)
      rw [reb_leaf _ _ _ (.inl h2), Con.subst_node _ _ t h1, hl]
      unfold suF
      rw [if_neg h1]
      conv => lhs; rw [← Con.inside_self t, hl]
      rfl
    · rw [reb_node _ _ _ (fun h => by rcases h with h | h <;> omega), Con.subst_node _ _ t h1]
      congr 1
      refine List.map_congr_left (fun x hx => ih x hx _ (ha x hx))
/-- a variable is right just if its index is -/
theorem var_node (m : Int) (h : 0 ≤ m) (h2 : m ≤ 20000) : Con.nodeB (Con.var m) = true := by
  have he : ByteArray.empty.toList = [] := by rw [ByteArray.toList_eq]; rfl
  have e1 : Con.shapeB (Con.var m) = true := by simp [Con.shapeB, Con.var, Con.partsOf, Con.binder]
  have e2 : Con.numB (Con.var m) = true := by
    unfold Con.numB
    rw [if_pos (.inl rfl), Bool.and_eq_true, decide_eq_true_eq, decide_eq_true_eq]
    exact ⟨h, h2⟩
  have e3 : Con.strB (Con.var m) = true := by simp [Con.strB, Con.var, he]
  have e4 : Con.kindB (Con.var m) = true := by simp [Con.kindB, Con.var, Con.binder, K.l]
  have e5 : (decide (1 ≤ (Con.var m).op) && decide ((Con.var m).op ≤ 13)) = true := by simp [Con.var]
  unfold Con.nodeB
  rw [e1, e2, e3, e4, e5]
  rfl
theorem half_var (m : Int) (h : 0 ≤ m) : Con.half (Con.var m) := by
  rw [half_iff]
  exact ⟨fun h2 => var_node m h h2, fun x hx => by cases hx⟩
/-- a node's rightness does not ask about its parts, but for their number -/
theorem node_inside (t : Con) (l : List Con) (h : l.length = t.l.length) : Con.nodeB (Con.inside t l) = Con.nodeB t := by
  unfold Con.nodeB
  have e : Con.shapeB (Con.inside t l) = Con.shapeB t := by
    unfold Con.shapeB
    show (if 0 ≤ Con.partsOf t.op then decide ((l.length : Int) = Con.partsOf t.op) && decide (t.names.length = 0) else decide (l.length = t.names.length) && Con.labelsOk t.names) = _
    rw [h]
  rw [e]
  rfl
theorem half_shift (b : Int) (t : Con) : ∀ f, 0 ≤ f → Con.allB t = true → (0 ≤ b ∨ Con.gap (-b) t f = true) → Con.half (Con.shift b t f) := by
  induction t using Con.ind with
  | h t ih =>
  intro f hf ha hb
  have ha' := half_of_all t ha
  have hn := ((half_iff t).1 ha')
  rw [allB_eq, Bool.and_eq_true, List.all_eq_true] at ha
  by_cases h1 : t.op = 1
  · rw [Con.shift_var _ _ t h1]
    split
    · rename_i h2
      refine half_var _ ?_
      rcases hb with hb | hb
      · omega
      · rw [gap_var _ _ _ h1, Bool.or_eq_true, decide_eq_true_eq, decide_eq_true_eq] at hb
        omega
    · exact ha'
  · rw [Con.shift_node _ _ t h1, half_iff]
    refine ⟨fun h2 => by rw [node_inside _ _ (by simp)]; exact hn.1 h2, fun x hx => ?_⟩
    obtain ⟨y, hy, rfl⟩ := List.mem_map.1 hx
    refine ih y hy _ (by have := Con.deep_le t.op f; omega) (ha.2 y hy) ?_
    rcases hb with hb | hb
    · exact .inl hb
    · rw [gap_node _ _ _ h1, List.all_eq_true] at hb
      exact .inr (hb y hy)
theorem half_subst (ts : List Con) (hts : ∀ x ∈ ts, Con.allB x = true) (t : Con) : ∀ d, 0 ≤ d → Con.allB t = true → Con.half (Con.subst ts t d) := by
  induction t using Con.ind with
  | h t ih =>
  intro d hd ha
  have ha' := half_of_all t ha
  have hn := ((half_iff t).1 ha')
  rw [allB_eq, Bool.and_eq_true, List.all_eq_true] at ha
  by_cases h1 : t.op = 1
  · rw [Con.subst_var _ _ t h1]
    split
    · exact ha'
    · split
      · exact half_shift d _ 0 (Int.le_refl _) (hts _ (getD_mem _ _ _ (by omega))) (.inl hd)
      · exact half_var _ (by omega)
  · rw [Con.subst_node _ _ t h1, half_iff]
    refine ⟨fun h2 => by rw [node_inside _ _ (by simp)]; exact hn.1 h2, fun x hx => ?_⟩
    obtain ⟨y, hy, rfl⟩ := List.mem_map.1 hx
    exact ih y hy _ (by have := Con.deep_le t.op d; omega) (ha.2 y hy)
theorem valid_all (t : Con) (h : Con.validB t = true) : Con.allB t = true := by
  unfold Con.validB at h
  rw [Bool.and_eq_true] at h
  exact h.2
mutual
/-- the free indices of the variables, one after another -/
def Con.frees : Con → Int → List Int
  | ⟨op, n, _, _, _, l⟩, d => if op = 1 then (if d ≤ n then [n - d] else []) else Con.freess l (Con.deep op d)
def Con.freess : List Con → Int → List Int
  | [], _ => []
  | t :: r, d => Con.frees t d ++ Con.freess r d
end
theorem freess_map (d : Int) (l : List Con) : Con.freess l d = l.flatMap (fun t => Con.frees t d) := by
  induction l with
  | nil => rw [Con.freess]; rfl
  | cons t r ih => rw [Con.freess, ih]; rfl
theorem frees_var (t : Con) (d : Int) (h : t.op = 1) : Con.frees t d = if d ≤ t.n then [t.n - d] else [] := by
  obtain ⟨op, n, s, k, names, l⟩ := t
  have h : op = 1 := h
  rw [Con.frees, if_pos h]
theorem frees_node (t : Con) (d : Int) (h : t.op ≠ 1) : Con.frees t d = t.l.flatMap (fun x => Con.frees x (Con.deep t.op d)) := by
  obtain ⟨op, n, s, k, names, l⟩ := t
  have h : op ≠ 1 := h
  rw [Con.frees, if_neg h, freess_map]
theorem gap_frees (m : Int) (t : Con) : ∀ f d, 0 ≤ f → Con.gap m t (f + d) = (Con.frees t d).all (fun i => decide (i < f) || decide (f + m ≤ i)) := by
  induction t using Con.ind with
  | h t ih =>
  intro f d hf
  by_cases h1 : t.op = 1
  · rw [gap_var _ _ _ h1, frees_var _ _ h1]
    by_cases h2 : d ≤ t.n
    · rw [if_pos h2]
      simp only [List.all_cons, List.all_nil, Bool.and_true]
      rw [Bool.eq_iff_iff]
      simp only [Bool.or_eq_true, decide_eq_true_eq]
      omega
    · rw [if_neg h2, decide_eq_true (by omega : t.n < f + d)]
      rfl
  · rw [gap_node _ _ _ h1, frees_node _ _ h1]
    have : ∀ l : List Con, (∀ x ∈ l, Con.gap m x (Con.deep t.op (f + d)) = (Con.frees x (Con.deep t.op d)).all (fun i => decide (i < f) || decide (f + m ≤ i))) → l.all (fun x => Con.gap m x (Con.deep t.op (f + d))) = (l.flatMap (fun x => Con.frees x (Con.deep t.op d))).all (fun i => decide (i < f) || decide (f + m ≤ i)) := by
      intro l
      induction l with
      | nil => intro _; rfl
      | cons x r ihr =>
        intro h
        rw [List.all_cons, List.flatMap_cons, List.all_append, h x List.mem_cons_self, ihr (fun y hy => h y (List.mem_cons_of_mem _ hy))]
    refine this t.l (fun x hx => ?_)
    rw [Int.add_comm f d, Con.deep_add, Int.add_comm _ f]
    exact ih x hx f _ hf
/-- a shift that would make a variable from from on one from before -/
def fallsB (t : Con) (b f : Int) : Bool := (Con.frees t 0).any (fun i => decide (f ≤ i) && decide (i + b < f))
theorem falls_gap (t : Con) (b f : Int) (hf : 0 ≤ f) : fallsB t b f = true ↔ (b < 0 ∧ Con.gap (-b) t f = false) := by
  have h := gap_frees (-b) t f 0 hf
  rw [Int.add_zero] at h
  rw [h]
  unfold fallsB
  rw [List.any_eq_true, Bool.eq_false_iff, Ne, List.all_eq_true]
  constructor
  · rintro ⟨i, hi, h2⟩
    rw [Bool.and_eq_true, decide_eq_true_eq, decide_eq_true_eq] at h2
    refine ⟨by omega, fun h3 => ?_⟩
    have := h3 i hi
    rw [Bool.or_eq_true, decide_eq_true_eq, decide_eq_true_eq] at this
    omega
  · rintro ⟨hb, h2⟩
    by_cases h3 : ∃ i ∈ Con.frees t 0, (decide (f ≤ i) && decide (i + b < f)) = true
    · exact h3
    · exfalso
      refine h2 (fun i hi => ?_)
      have h4 : ¬ (decide (f ≤ i) && decide (i + b < f)) = true := fun h5 => h3 ⟨i, hi, h5⟩
      rw [Bool.and_eq_true, decide_eq_true_eq, decide_eq_true_eq] at h4
      rw [Bool.or_eq_true, decide_eq_true_eq, decide_eq_true_eq]
      omega
/-- what Shift answers, as the code finds it -/
theorem shiftOut_eq (t : Con) (b f : Int) : shiftOut t b f = if Con.validB t = true then (if f < 0 ∨ b < -20000 ∨ 20000 < b ∨ fallsB t b f = true then (Con.none0, 2) else if fitB (Con.reb (shF b f) t 0) 20000 1 = true then (Con.reb (shF b f) t 0, 0) else (Con.none0, 6)) else (Con.none0, 1) := by
  unfold shiftOut
  by_cases hv : Con.validB t = true
  · rw [if_pos hv, if_pos hv]
    by_cases hf : f < 0
    · rw [if_pos (.inl hf), if_pos (.inl hf)]
    have hg := falls_gap t b f (by omega)
    by_cases h : f < 0 ∨ b < -20000 ∨ 20000 < b ∨ fallsB t b f = true
    · rw [if_pos h, if_pos]
      rcases h with h | h | h | h
      · exact .inl h
      · exact .inr (.inl h)
      · exact .inr (.inr (.inl h))
      · exact .inr (.inr (.inr (hg.1 h)))
    · rw [if_neg h, if_neg]
      · have e := reb_shift b f (by omega) t 0 (valid_all t hv)
        rw [Int.zero_add] at e
        rw [e]
        unfold outB
        rw [half_valid]
        refine half_shift b t f (by omega) (valid_all t hv) ?_
        by_cases hb : 0 ≤ b
        · exact .inl hb
        · right
          cases hgp : Con.gap (-b) t f
          · exact absurd (.inr (.inr (.inr (hg.2 ⟨by omega, hgp⟩)))) h
          · rfl
      · intro h2
        apply h
        rcases h2 with h2 | h2 | h2 | h2
        · exact .inl h2
        · exact .inr (.inl h2)
        · exact .inr (.inr (.inl h2))
        · exact .inr (.inr (.inr (hg.2 h2)))
  · rw [if_neg hv, if_neg hv]
theorem substOut_eq (t : Con) (l : List Con) : substOut t l = if (Con.validB t && l.all Con.validB) = true then (if 1000 < l.length then (Con.none0, 5) else if fitB (Con.reb (suF l) t 0) 20000 1 = true then (Con.reb (suF l) t 0, 0) else (Con.none0, 6)) else (Con.none0, 1) := by
  unfold substOut
  by_cases hv : (Con.validB t && l.all Con.validB) = true
  · rw [if_pos hv, if_pos hv]
    split
    · rfl
    · rw [Bool.and_eq_true, List.all_eq_true] at hv
      have hl : ∀ x ∈ l, Con.allB x = true := fun x hx => valid_all x (hv.2 x hx)
      rw [reb_subst l hl t 0 (valid_all t hv.1)]
      unfold outB
      rw [half_valid _ (half_subst l hl t 0 (Int.le_refl _) (valid_all t hv.1))]
  · rw [if_neg hv, if_neg hv]
end Go.Proofs.YtpkgiemdnfbopaaGreat
namespace Go.Proofs.YtpkgiemdnfbopaaGreat
open Pl (K Con KR KS kof kofs ownK inK)

theorem kof_var (r : List K) (n : Int) : kof r (Con.var n) = (match r[n.toNat]? with | some k => .ok k | none => .bad 10 []) := by
  rw [Pl.kof_eq]
  show (kofs _ [] 0).next _ = _
  rw [Pl.kofs_nil]
  rfl
theorem kofs_map (f : Con → Con) (r s : List K) (l : List Con) : ∀ i, (∀ x ∈ l, kof s (f x) = kof r x) → kofs s (l.map f) i = kofs r l i := by
  induction l with
  | nil => intro i _; rw [List.map_nil, Pl.kofs_nil, Pl.kofs_nil]
  | cons t rest ih =>
    intro i h
    rw [List.map_cons, Pl.kofs_cons, Pl.kofs_cons, h t List.mem_cons_self, ih (i + 1) (fun x hx => h x (List.mem_cons_of_mem _ hx))]
theorem allB_parts (t : Con) (h : Con.allB t = true) : Con.nodeB t = true ∧ ∀ x ∈ t.l, Con.allB x = true := by
  rw [allB_eq, Bool.and_eq_true, List.all_eq_true] at h
  exact h
theorem nodeB_pos (t : Con) (h : Con.nodeB t = true) : 0 ≤ t.n := (nodeB_n t h).1
theorem inK_app (r1 r2 : List K) (op : Int) (kd : K) : inK (r1 ++ r2) op kd = inK r1 op kd ++ r2 := by
  unfold inK
  split <;> rfl
theorem inK_len (r : List K) (op : Int) (kd : K) : ((inK r op kd).length : Int) = Con.deep op r.length := by
  unfold inK Con.deep
  split <;> simp
/-- kinds do not depend on other variables -/
theorem kof_shift (m : List K) (t : Con) : ∀ (r1 r2 : List K), Con.allB t = true → kof (r1 ++ m ++ r2) (Con.shift m.length t r1.length) = kof (r1 ++ r2) t := by
  induction t using Con.ind with
  | h t ih =>
  intro r1 r2 ha
  obtain ⟨hn, hp⟩ := allB_parts t ha
  have h0 := nodeB_pos t hn
  by_cases h : t.op = 1
  · have hc := clean_node t hn h
    rw [hc] at h0 ⊢
    have h0 : 0 ≤ t.n := h0
    rw [Con.shift_var _ _ _ rfl, kof_var]
    show kof _ (if (r1.length : Int) ≤ t.n then Con.var (t.n + m.length) else Con.var t.n) = _
    by_cases h1 : (r1.length : Int) ≤ t.n
    · rw [if_pos h1, kof_var]
      have e : (r1 ++ m ++ r2)[(t.n + m.length).toNat]? = (r1 ++ r2)[t.n.toNat]? := by
        rw [List.append_assoc, List.getElem?_append_right (by omega), List.getElem?_append_right (by omega), List.getElem?_append_right (by omega)]
        congr 1
        omega
      rw [e]
    · rw [if_neg h1, kof_var]
      have e : (r1 ++ m ++ r2)[t.n.toNat]? = (r1 ++ r2)[t.n.toNat]? := by
        rw [List.append_assoc, List.getElem?_append_left (by omega), List.getElem?_append_left (by omega)]
      rw [e]
  · rw [Con.shift_node _ _ t h, Pl.kof_eq, Pl.kof_eq _ t]
    show (kofs (inK (r1 ++ m ++ r2) t.op t.kind) (t.l.map _) 0).next (ownK (r1 ++ m ++ r2) t.op t.n t.kind) = _
    rw [kofs_map _ (inK (r1 ++ r2) t.op t.kind) _ t.l 0 (fun x hx => ?_), show ownK (r1 ++ m ++ r2) t.op t.n t.kind = ownK (r1 ++ r2) t.op t.n t.kind from funext fun ks => Pl.ownK_scope _ _ _ _ _ _ h]
    rw [List.append_assoc, inK_app, inK_app, ← List.append_assoc, ← inK_len]
    exact ih x hx _ r2 (hp x hx)
/-- substitution keeps kinds -/
theorem kof_subst (ts : List Con) (ks : List K) (r2 : List K) (hl : ts.length = ks.length) (hts : ∀ x ∈ ts, Con.allB x = true) (hks : ∀ i (h : i < ts.length) (h2 : i < ks.length), kof r2 ts[i] = .ok ks[i]) (t : Con) : ∀ (r1 : List K) (k : K), Con.allB t = true → kof (r1 ++ ks ++ r2) t = .ok k → kof (r1 ++ r2) (Con.subst ts t r1.length) = .ok k := by
  induction t using Con.ind with
  | h t ih =>
  intro r1 k ha hk
  obtain ⟨hn, hp⟩ := allB_parts t ha
  have h0 := nodeB_pos t hn
  by_cases h : t.op = 1
  · have hc := clean_node t hn h
    rw [hc] at h0 hk ⊢
    have h0 : 0 ≤ t.n := h0
    rw [kof_var] at hk
    rw [Con.subst_var _ _ _ rfl]
    show kof _ (if t.n < (r1.length : Int) then Con.var t.n else if t.n - r1.length < (ts.length : Int) then Con.shift r1.length (ts.getD (t.n - r1.length).toNat Con.none0) 0 else Con.var (t.n - ts.length)) = _
    by_cases h1 : t.n < (r1.length : Int)
    · rw [if_pos h1, kof_var]
      have e : (r1 ++ ks ++ r2)[t.n.toNat]? = (r1 ++ r2)[t.n.toNat]? := by
        rw [List.append_assoc, List.getElem?_append_left (by omega), List.getElem?_append_left (by omega)]
      rw [← e]
      exact hk
    · rw [if_neg h1]
      by_cases h2 : t.n - r1.length < (ts.length : Int)
      · rw [if_pos h2]
        have hi : (t.n - r1.length).toNat < ts.length := by omega
        have hi2 : (t.n - r1.length).toNat < ks.length := by omega
        have e : (r1 ++ ks ++ r2)[t.n.toNat]? = some ks[(t.n - r1.length).toNat] := by
          rw [List.append_assoc, List.getElem?_append_right (by omega), List.getElem?_append_left (by omega), show t.n.toNat - r1.length = (t.n - r1.length).toNat from by omega, List.getElem?_eq_getElem hi2]
        rw [e] at hk
        injection hk with hk
        rw [List.getD_eq_getElem?_getD, List.getElem?_eq_getElem hi]
        have := kof_shift r1 ts[(t.n - r1.length).toNat] [] r2 (hts _ (List.getElem_mem hi))
        rw [List.nil_append, List.nil_append] at this
        rw [← hk, ← hks _ hi hi2]
        exact this
      · rw [if_neg h2, kof_var]
        have e : (r1 ++ ks ++ r2)[t.n.toNat]? = (r1 ++ r2)[(t.n - ts.length).toNat]? := by
          rw [List.append_assoc, List.getElem?_append_right (by omega), List.getElem?_append_right (by omega), List.getElem?_append_right (by omega)]
          congr 1
          omega
        rw [← e]
        exact hk
  · rw [Con.subst_node _ _ t h, Pl.kof_eq]
    rw [Pl.kof_eq] at hk
    show (kofs (inK (r1 ++ r2) t.op t.kind) (t.l.map _) 0).next (ownK (r1 ++ r2) t.op t.n t.kind) = _
    rw [show ownK (r1 ++ r2) t.op t.n t.kind = ownK (r1 ++ ks ++ r2) t.op t.n t.kind from funext fun ks => Pl.ownK_scope _ _ _ _ _ _ h]
    cases hs : kofs (inK (r1 ++ ks ++ r2) t.op t.kind) t.l 0 with
    | bad e p => rw [hs] at hk; cases hk
    | ok qs =>
      rw [hs] at hk
      obtain ⟨h1, h2⟩ := (Pl.kofs_ok _ _ _ _).1 hs
      have : kofs (inK (r1 ++ r2) t.op t.kind) (t.l.map (fun x => Con.subst ts x (Con.deep t.op r1.length))) 0 = .ok qs := by
        refine (Pl.kofs_ok _ _ _ _).2 ⟨by simp [h1], fun j h3 h4 => ?_⟩
        rw [List.getElem_map]
        have hj : j < t.l.length := by simpa using h3
        have := h2 j hj h4
        rw [List.append_assoc, inK_app, ← List.append_assoc] at this
        have key := ih _ (List.getElem_mem hj) _ _ (hp _ (List.getElem_mem hj)) this
        rw [inK_len] at key
        rw [inK_app]
        exact key
      rw [this]
      exact hk
/-- a fault in a part -/
theorem kof_at_cons {s : List K} {u : Con} {e : Int} {i : Nat} {q : List Nat} (h : kof s u = .bad e (i :: q)) : ∃ hi : i < u.l.length, kof (inK s u.op u.kind) u.l[i] = .bad e q := by
  rw [Pl.kof_eq] at h
  cases hs : kofs (inK s u.op u.kind) u.l 0 with
  | ok ks =>
    rw [hs] at h
    have := (Pl.ownK_bad h).1
    cases this
  | bad e' p' =>
    rw [hs] at h
    injection h with h1 h2
    subst h1 h2
    obtain ⟨j, q', hj, h3, h4⟩ := Pl.kofs_bad _ _ _ _ _ hs
    injection h3 with h3 h5
    subst h5
    rw [Nat.zero_add] at h3
    subst h3
    exact ⟨hj, h4⟩
/-- a fault of the node itself -/
theorem kof_at_nil {s : List K} {u : Con} {e : Int} (h : kof s u = .bad e []) : ∀ x ∈ u.l, ∃ k, kof (inK s u.op u.kind) x = .ok k := by
  rw [Pl.kof_eq] at h
  cases hs : kofs (inK s u.op u.kind) u.l 0 with
  | ok ks =>
    obtain ⟨h1, h2⟩ := (Pl.kofs_ok _ _ _ _).1 hs
    intro x hx
    obtain ⟨j, hj, rfl⟩ := List.getElem_of_mem hx
    exact ⟨_, h2 j hj (by omega)⟩
  | bad e' p' =>
    rw [hs] at h
    injection h with h1 h2
    obtain ⟨j, q', hj, h3, -⟩ := Pl.kofs_bad _ _ _ _ _ hs
    rw [h2] at h3
    cases h3
end Go.Proofs.YtpkgiemdnfbopaaGreat
namespace Go.Proofs.YtpkgiemdnfbopaaGreat
open Go Go.RowKit
open Pl (K Con)
set_option linter.unusedSimpArgs false
set_option linter.unusedVariables false

theorem cbinder_any (op : Int) (w : World) :
    Calls Tryz.prog 137 #[.int .i64 op] w fun e w' => e = .returned (.bool (Con.binder op)) ∧ w = w' := by
  by_cases h9 : op = 9
  · subst h9
    go_enter Tryz.func137, Tryz.ntmps137
    go_wp2
    go_ret
    exact ⟨rfl, rfl⟩
  have q9 : (op == 9) = false := beq_eq_false_iff_ne.2 h9
  by_cases h10 : op = 10
  · subst h10
    go_enter Tryz.func137, Tryz.ntmps137
    go_wp2
    go_ret
    exact ⟨rfl, rfl⟩
  have q10 : (op == 10) = false := beq_eq_false_iff_ne.2 h10
  by_cases h11 : op = 11
  · subst h11
    go_enter Tryz.func137, Tryz.ntmps137
    go_wp2
    go_ret
    exact ⟨rfl, rfl⟩
  have q11 : (op == 11) = false := beq_eq_false_iff_ne.2 h11
  by_cases h13 : op = 13
  · subst h13
    go_enter Tryz.func137, Tryz.ntmps137
    go_wp2
    go_ret
    exact ⟨rfl, rfl⟩
  have q13 : (op == 13) = false := beq_eq_false_iff_ne.2 h13
  have HV := Lib.hid (show Con.binder op = false from by unfold Con.binder; rw [decide_eq_false h9, decide_eq_false h10, decide_eq_false h11, decide_eq_false h13]; rfl)
  clear h9 h10 h11 h13
  go_enter Tryz.func137, Tryz.ntmps137
  go_wp2
  go_ret
  exact ⟨by rw [HV.out]; rfl, rfl⟩
/-- the number of parts, as the code asks it -/
def partsFitB (op : Int) (ln nn : Nat) : Bool :=
  if op = 1 ∨ op = 2 ∨ op = 3 ∨ op = 4 ∨ op = 5 then decide (ln = 0) else if op = 9 ∨ op = 10 ∨ op = 11 ∨ op = 13 then decide (ln = 1) else if op = 6 ∨ op = 12 then decide (ln = 2) else if op = 7 ∨ op = 8 then decide (ln = nn) else false
theorem nat_beq (a b : Nat) : ((a : Int) == (b : Int)) = decide (a = b) := by
  rw [Bool.eq_iff_iff, beq_iff_eq, decide_eq_true_eq]; omega
theorem nat_beq0 (a : Nat) : ((a : Int) == 0) = decide (a = 0) := nat_beq a 0
theorem nat_beq1 (a : Nat) : ((a : Int) == 1) = decide (a = 1) := nat_beq a 1
theorem nat_beq2 (a : Nat) : ((a : Int) == 2) = decide (a = 2) := nat_beq a 2
set_option maxRecDepth 100000 in
theorem partsFit_any (o : Nat) (b : Nat) (op n : Int) (s : ByteArray) (ka na la : Option Addr) (kn kc nn nc ln lc : Nat) (w : World) (c0 : w.cell? ⟨b, o, none⟩ = some (.int .i64 op)) (c4 : w.cell? ⟨b, o + 4, none⟩ = some (.slice na nn nc)) (c5 : w.cell? ⟨b, o + 5, none⟩ = some (.slice la ln lc)) :
    Calls Tryz.prog 178 #[.pointer (some ⟨b, o, none⟩)] w fun e w' => e = .returned (.bool (partsFitB op ln nn)) ∧ w = w' := by
  by_cases h1 : op = 1
  · subst h1
    have HV := Lib.hid (show partsFitB 1 ln nn = decide (ln = 0) from rfl)
    have HQ := Lib.hid (nat_beq0 ln)
    go_enter Tryz.func178, Tryz.ntmps178
    go_wp2
    go_ret
    exact ⟨by rw [HV.out, ← HQ.out]; rfl, rfl⟩
  have q1 : (op == 1) = false := beq_eq_false_iff_ne.2 h1
  by_cases h2 : op = 2
  · subst h2
    have HV := Lib.hid (show partsFitB 2 ln nn = decide (ln = 0) from rfl)
    have HQ := Lib.hid (nat_beq0 ln)
    go_enter Tryz.func178, Tryz.ntmps178
    go_wp2
    go_ret
    exact ⟨by rw [HV.out, ← HQ.out]; rfl, rfl⟩
  have q2 : (op == 2) = false := beq_eq_false_iff_ne.2 h2
  by_cases h3 : op = 3
  · subst h3
    have HV := Lib.hid (show partsFitB 3 ln nn = decide (ln = 0) from rfl)
    have HQ := Lib.hid (nat_beq0 ln)
    go_enter Tryz.func178, Tryz.ntmps178
    go_wp2
    go_ret
    exact ⟨by rw [HV.out, ← HQ.out]; rfl, rfl⟩
  have q3 : (op == 3) = false := beq_eq_false_iff_ne.2 h3
  by_cases h4 : op = 4
  · subst h4
    have HV := Lib.hid (show partsFitB 4 ln nn = decide (ln = 0) from rfl)
    have HQ := Lib.hid (nat_beq0 ln)
    go_enter Tryz.func178, Tryz.ntmps178
    go_wp2
    go_ret
    exact ⟨by rw [HV.out, ← HQ.out]; rfl, rfl⟩
  have q4 : (op == 4) = false := beq_eq_false_iff_ne.2 h4
  by_cases h5 : op = 5
  · subst h5
    have HV := Lib.hid (show partsFitB 5 ln nn = decide (ln = 0) from rfl)
    have HQ := Lib.hid (nat_beq0 ln)
    go_enter Tryz.func178, Tryz.ntmps178
    go_wp2
    go_ret
    exact ⟨by rw [HV.out, ← HQ.out]; rfl, rfl⟩
  have q5 : (op == 5) = false := beq_eq_false_iff_ne.2 h5
  by_cases h9 : op = 9
  · subst h9
    have HV := Lib.hid (show partsFitB 9 ln nn = decide (ln = 1) from rfl)
    have HQ := Lib.hid (nat_beq1 ln)
    go_enter Tryz.func178, Tryz.ntmps178
    go_wp2
    go_ret
    exact ⟨by rw [HV.out, ← HQ.out]; rfl, rfl⟩
  have q9 : (op == 9) = false := beq_eq_false_iff_ne.2 h9
  by_cases h10 : op = 10
  · subst h10
    have HV := Lib.hid (show partsFitB 10 ln nn = decide (ln = 1) from rfl)
    have HQ := Lib.hid (nat_beq1 ln)
    go_enter Tryz.func178, Tryz.ntmps178
    go_wp2
    go_ret
    exact ⟨by rw [HV.out, ← HQ.out]; rfl, rfl⟩
  have q10 : (op == 10) = false := beq_eq_false_iff_ne.2 h10
  by_cases h11 : op = 11
  · subst h11
    have HV := Lib.hid (show partsFitB 11 ln nn = decide (ln = 1) from rfl)
    have HQ := Lib.hid (nat_beq1 ln)
    go_enter Tryz.func178, Tryz.ntmps178
    go_wp2
    go_ret
    exact ⟨by rw [HV.out, ← HQ.out]; rfl, rfl⟩
  have q11 : (op == 11) = false := beq_eq_false_iff_ne.2 h11
  by_cases h13 : op = 13
  · subst h13
    have HV := Lib.hid (show partsFitB 13 ln nn = decide (ln = 1) from rfl)
    have HQ := Lib.hid (nat_beq1 ln)
    go_enter Tryz.func178, Tryz.ntmps178
    go_wp2
    go_ret
    exact ⟨by rw [HV.out, ← HQ.out]; rfl, rfl⟩
  have q13 : (op == 13) = false := beq_eq_false_iff_ne.2 h13
  by_cases h6 : op = 6
  · subst h6
    have HV := Lib.hid (show partsFitB 6 ln nn = decide (ln = 2) from rfl)
    have HQ := Lib.hid (nat_beq2 ln)
    go_enter Tryz.func178, Tryz.ntmps178
    go_wp2
    go_ret
    exact ⟨by rw [HV.out, ← HQ.out]; rfl, rfl⟩
  have q6 : (op == 6) = false := beq_eq_false_iff_ne.2 h6
  by_cases h12 : op = 12
  · subst h12
    have HV := Lib.hid (show partsFitB 12 ln nn = decide (ln = 2) from rfl)
    have HQ := Lib.hid (nat_beq2 ln)
    go_enter Tryz.func178, Tryz.ntmps178
    go_wp2
    go_ret
    exact ⟨by rw [HV.out, ← HQ.out]; rfl, rfl⟩
  have q12 : (op == 12) = false := beq_eq_false_iff_ne.2 h12
  by_cases h7 : op = 7
  · subst h7
    have HV := Lib.hid (show partsFitB 7 ln nn = decide (ln = nn) from rfl)
    have HQ := Lib.hid (nat_beq ln nn)
    go_enter Tryz.func178, Tryz.ntmps178
    go_wp2
    go_ret
    exact ⟨by rw [HV.out, ← HQ.out]; rfl, rfl⟩
  have q7 : (op == 7) = false := beq_eq_false_iff_ne.2 h7
  by_cases h8 : op = 8
  · subst h8
    have HV := Lib.hid (show partsFitB 8 ln nn = decide (ln = nn) from rfl)
    have HQ := Lib.hid (nat_beq ln nn)
    go_enter Tryz.func178, Tryz.ntmps178
    go_wp2
    go_ret
    exact ⟨by rw [HV.out, ← HQ.out]; rfl, rfl⟩
  have q8 : (op == 8) = false := beq_eq_false_iff_ne.2 h8
  have HV := Lib.hid (show partsFitB op ln nn = false from by
    unfold partsFitB
    rw [if_neg (by omega), if_neg (by omega), if_neg (by omega), if_neg (by omega)])
  clear h1 h2 h3 h4 h5 h6 h7 h8 h9 h10 h11 h12 h13
  go_enter Tryz.func178, Tryz.ntmps178
  go_wp2
  go_ret
  exact ⟨by rw [HV.out]; rfl, rfl⟩
def numFitB (op n : Int) : Bool := if op = 1 ∨ op = 3 then decide (0 ≤ n) && decide (n ≤ 20000) else decide (n = 0)
theorem int_beq (a b : Int) : (a == b) = decide (a = b) := by
  rw [Bool.eq_iff_iff, beq_iff_eq, decide_eq_true_eq]
set_option maxRecDepth 100000 in
theorem numFit_any (o : Nat) (b : Nat) (op n : Int) (s : ByteArray) (ka na la : Option Addr) (kn kc nn nc ln lc : Nat) (w : World) (c0 : w.cell? ⟨b, o, none⟩ = some (.int .i64 op)) (c1 : w.cell? ⟨b, o + 1, none⟩ = some (.int .i64 n)) :
    Calls Tryz.prog 179 #[.pointer (some ⟨b, o, none⟩)] w fun e w' => e = .returned (.bool (numFitB op n)) ∧ w = w' := by
  by_cases h1 : op = 1
  · subst h1
    have HV := Lib.hid (show numFitB 1 n = (decide (0 ≤ n) && decide (n ≤ 20000)) from rfl)
    cases h0 : decide (0 ≤ n)
    · rw [h0] at HV
      go_enter Tryz.func179, Tryz.ntmps179
      go_wp2
      go_ret
      exact ⟨by rw [HV.out]; rfl, rfl⟩
    · rw [h0] at HV
      go_enter Tryz.func179, Tryz.ntmps179
      go_wp2
      go_ret
      exact ⟨by rw [HV.out]; rfl, rfl⟩
  have q1 : (op == 1) = false := beq_eq_false_iff_ne.2 h1
  by_cases h3 : op = 3
  · subst h3
    have HV := Lib.hid (show numFitB 3 n = (decide (0 ≤ n) && decide (n ≤ 20000)) from rfl)
    cases h0 : decide (0 ≤ n)
    · rw [h0] at HV
      go_enter Tryz.func179, Tryz.ntmps179
      go_wp2
      go_ret
      exact ⟨by rw [HV.out]; rfl, rfl⟩
    · rw [h0] at HV
      go_enter Tryz.func179, Tryz.ntmps179
      go_wp2
      go_ret
      exact ⟨by rw [HV.out]; rfl, rfl⟩
  have q3 : (op == 3) = false := beq_eq_false_iff_ne.2 h3
  have HV := Lib.hid (show numFitB op n = decide (n = 0) from by unfold numFitB; rw [if_neg (by omega)])
  have HQ := Lib.hid (int_beq n 0)
  clear h1 h3
  go_enter Tryz.func179, Tryz.ntmps179
  go_wp2
  go_ret
  exact ⟨by rw [HV.out, ← HQ.out]; rfl, rfl⟩
end Go.Proofs.YtpkgiemdnfbopaaGreat
namespace Go.Proofs.YtpkgiemdnfbopaaGreat
open Go Go.RowKit
open Pl (K Con)
set_option linter.unusedSimpArgs false
set_option linter.unusedVariables false

set_option maxRecDepth 100000 in
/-- every string of a row, asked by a function -/
theorem allS_any (f : Nat) (hen : ∀ (W : World) (args : Array Value), Sem.run Tryz.prog (callFunc f args) W = .ok (.enter f args) W) (p : ByteArray → Bool)
    (hk : ∀ (z : ByteArray) (W : World), z.size ≤ maxLen → Calls Tryz.prog f #[.string z] W fun e w' => e = .returned (.bool (p z)) ∧ Below W.heap.size W w')
    (P : Nat → Prop) (zs : List ByteArray) (w : World) (v : Value) (hP : ∀ b, P b → b < w.heap.size) (hz : StrSl w P v zs) :
    Calls Tryz.prog 57 #[v, .func (.func f) #[] #[]] w fun e w' => e = .returned (.bool (zs.all p)) ∧ Below w.heap.size w w' := by
  have HKK := Lib.hid hk
  have HSL := Lib.hid (fun W (hW : Below w.heap.size w W) => hz.keep (Same.of_below hW hP))
  obtain ⟨a, c, hv, h1, h2, h3, h4, -⟩ := hz
  have HSZ := Lib.hid h4
  subst hv
  obtain ⟨n, hn⟩ : ∃ n, n = zs.length := ⟨_, rfl⟩
  have HN := Lib.hid hn
  have hn63 : n ≤ 9223372036854775807 := by unfold maxLen at h2; omega
  rw [← hn] at HSL ⊢
  clear h1 h2 h3 h4 hn hk hP
  go_enter Tryz.func57, Tryz.ntmps57
  go_wp2_with fail
  go_loopg [9] (n + 1) (fun g i wr => ∃ k : Nat, k ≤ n ∧ i = .int .i64 k ∧ g = n + 1 - k ∧ (zs.take k).all p = true ∧ Below w.heap.size w wr)
  case atStart => exact ⟨0, by omega, rfl, by omega, by simp, Below.refl _ _⟩
  case round =>
    obtain ⟨k, hk, rfl, hg, hin, hbw⟩ := hrel
    have HI := Lib.hid hin
    have HBW := Lib.hid hbw
    clear hin
    by_cases hlt : k < n
    · have q5 : decide ((k : Int) < (n : Int)) = true := decide_eq_true (by omega)
      have hkz : k < zs.length := by rw [← HN.out]; exact hlt
      obtain ⟨b, off, c', e, f0⟩ := strs_at (HSL.out wr hbw) k hkz
      injection e with e1 e2 e3
      subst e1 e3
      clear e2 hbw
      have HC := Lib.hid (HKK.out zs[k] wr (HSZ.out _ (List.getElem_mem hkz)))
      have HT := Lib.hid (all_take_step p zs k hkz)
      have HM := Lib.hid (all_miss p zs k hkz)
      generalize zs[k] = x at *
      generalize hr : p x = r at HC HT HM
      go_wp2_with fail
      refine HC.out.mono ?_
      rintro e w' ⟨rfl, hb3⟩
      have HB3 := Lib.hid (belowStep hb3 HBW.out)
      clear hb3 f0
      cases r
      · have HF := Lib.hid (HM.out rfl)
        clear hr
        go_wp2
        go_ret
        exact ⟨by rw [HF.out]; rfl, HB3.out⟩
      · have HT2 := Lib.hid (show (zs.take (k + 1)).all p = true from by rw [HT.out, HI.out]; rfl)
        clear HM HT hr
        go_wp2
        go_roundg (gk - 1)
        case measure => omega
        case rel => exact ⟨k + 1, by omega, by go_num, by omega, HT2.out, HB3.out⟩
    · have q5 : decide ((k : Int) < (n : Int)) = false := decide_eq_false (by omega)
      have HA := Lib.hid (show zs.all p = true from by have := HI.out; rwa [List.take_of_length_le (by rw [← HN.out]; omega)] at this)
      clear hbw
      go_wp2
      go_ret
      exact ⟨by rw [HA.out]; rfl, HBW.out⟩
set_option maxRecDepth 100000 in
/-- every constructor of a row, asked by a function -/
theorem allC_any (f : Nat) (hen : ∀ (W : World) (args : Array Value), Sem.run Tryz.prog (callFunc f args) W = .ok (.enter f args) W) (p : Con → Bool)
    (P : Nat → Prop) (l : List Con) (hk : ∀ t ∈ l, ∀ (W : World) (v : Value), (∀ b, P b → b < W.heap.size) → ConV W P t v → Calls Tryz.prog f #[v] W fun e w' => e = .returned (.bool (p t)) ∧ Below W.heap.size W w')
    (w : World) (v : Value) (hP : ∀ b, P b → b < w.heap.size) (hl : ConSl w P v l) :
    Calls Tryz.prog 81 #[v, .func (.func f) #[] #[]] w fun e w' => e = .returned (.bool (l.all p)) ∧ Below w.heap.size w w' := by
  have HKK := Lib.hid hk
  have HP := Lib.hid hP
  have HSL := Lib.hid (fun W (hW : Below w.heap.size w W) => hl.keep (Same.of_below hW hP))
  obtain ⟨la, lc, rfl, hlc, hcm, -⟩ := hl.each
  obtain ⟨n, hn⟩ : ∃ n, n = l.length := ⟨_, rfl⟩
  have HN := Lib.hid hn
  rw [← hn] at HSL ⊢
  have hn63 : n ≤ 9223372036854775807 := by unfold maxLen at hcm; omega
  clear hl hn hcm hlc hP hk
  go_enter Tryz.func81, Tryz.ntmps81
  go_wp2_with fail
  go_loopg [9] (n + 1) (fun g i wr => ∃ k : Nat, k ≤ n ∧ i = .int .i64 k ∧ g = n + 1 - k ∧ (l.take k).all p = true ∧ Below w.heap.size w wr)
  case atStart => exact ⟨0, by omega, rfl, by omega, by simp, Below.refl _ _⟩
  case round =>
    obtain ⟨k, hk, rfl, hg, hin, hbw⟩ := hrel
    have HI := Lib.hid hin
    have HBW := Lib.hid hbw
    clear hin
    by_cases hlt : k < n
    · have q5 : decide ((k : Int) < (n : Int)) = true := decide_eq_true (by omega)
      have hkl : k < l.length := by rw [← HN.out]; exact hlt
      obtain ⟨b, off, c', xa, xn, xc, ya, yn, yc, za, zn, zc, e, -, f0, f1, f2, f3, f4, f5, hx⟩ := (HSL.out wr hbw).part k hkl
      injection e with e1 e2 e3
      subst e1 e3
      clear e2
      obtain ⟨hbx, hb⟩ := boxN_new wr 28 #[.int .i64 l[k].op, .int .i64 l[k].n, .string l[k].s, .slice xa xn xc, .slice ya yn yc, .slice za zn zc]
      have d0 := hbx.cell 0 (.int .i64 l[k].op) rfl
      have d1 := hbx.cell 1 (.int .i64 l[k].n) rfl
      have d2 := hbx.cell 2 (.string l[k].s) rfl
      have d3 := hbx.cell 3 (.slice xa xn xc) rfl
      have d4 := hbx.cell 4 (.slice ya yn yc) rfl
      have d5 := hbx.cell 5 (.slice za zn zc) rfl
      have HC := Lib.hid (HKK.out _ (List.getElem_mem hkl) _ _ (fun b hb' => Nat.lt_of_lt_of_le (HP.out b hb') (Nat.le_trans hbw.size hb.size)) (hx.keep (Same.of_below hb (fun b hb' => Nat.lt_of_lt_of_le (HP.out b hb') hbw.size))))
      have HB1 := Lib.hid (belowStep hb hbw)
      have HT := Lib.hid (all_take_step p l k hkl)
      have HM := Lib.hid (all_miss p l k hkl)
      generalize l[k] = x at *
      generalize hr : p x = r at HC HT HM
      clear hbx hb hbw hx
      go_wp2_with fail
      refine HC.out.mono ?_
      rintro e w' ⟨rfl, hb3⟩
      have HB3 := Lib.hid (belowStep hb3 HB1.out)
      clear hb3 f0 f1 f2 f3 f4 f5 d0 d1 d2 d3 d4 d5
      cases r
      · have HF := Lib.hid (HM.out rfl)
        clear hr
        go_wp2
        go_ret
        exact ⟨by rw [HF.out]; rfl, HB3.out⟩
      · have HT2 := Lib.hid (show (l.take (k + 1)).all p = true from by rw [HT.out, HI.out]; rfl)
        clear HM HT hr
        go_wp2
        go_roundg (gk - 1)
        case measure => omega
        case rel => exact ⟨k + 1, by omega, by go_num, by omega, HT2.out, HB3.out⟩
    · have q5 : decide ((k : Int) < (n : Int)) = false := decide_eq_false (by omega)
      have HA := Lib.hid (show l.all p = true from by have := HI.out; rwa [List.take_of_length_le (by rw [← HN.out]; omega)] at this)
      clear hbw
      go_wp2
      go_ret
      exact ⟨by rw [HA.out]; rfl, HBW.out⟩
/-- where the first full stop stands -/
theorem dot_none (s : ByteArray) (h : Lib.indexByte s.data.toList 46 = -1) : s.toList.all Pl.noDot = true := by
  rw [List.all_eq_true]
  intro x hx
  obtain ⟨j, hj, rfl⟩ := List.getElem_of_mem hx
  have h1 := Lib.indexByte_none h j
  unfold Pl.noDot
  rw [Bool.not_eq_true', decide_eq_false_iff_not]
  intro h2
  apply h1
  rw [← Pl.toList_eq, List.getElem?_eq_getElem hj]
  congr 1
  exact UInt8.toNat_inj.1 (show _ = 46 by omega)
theorem dot_some (s : ByteArray) (k : Nat) (h : Lib.indexByte s.data.toList 46 = (k : Int)) : ∃ hk : k < s.size, (s.toList.take k).all Pl.noDot = true ∧ Pl.noDot s[k] = false := by
  obtain ⟨h1, h2⟩ := Lib.indexByte_some h
  rw [← Pl.toList_eq] at h1 h2
  have hk : k < s.toList.length := by
    rcases Nat.lt_or_ge k s.toList.length with h3 | h3
    · exact h3
    · rw [List.getElem?_eq_none h3] at h1; cases h1
  have hk' : k < s.size := by rw [← Pl.len_size]; exact hk
  refine ⟨hk', ?_, ?_⟩
  · rw [List.all_eq_true]
    intro x hx
    obtain ⟨j, hj, rfl⟩ := List.getElem_of_mem hx
    rw [List.length_take] at hj
    have h3 := h2 j (by omega)
    rw [List.getElem_take]
    unfold Pl.noDot
    rw [Bool.not_eq_true', decide_eq_false_iff_not]
    intro h4
    apply h3
    rw [List.getElem?_eq_getElem (by omega)]
    congr 1
    exact UInt8.toNat_inj.1 (show _ = 46 by omega)
  · have e := Pl.drop_cons s k hk'
    rw [List.drop_eq_getElem_cons hk] at e
    injection e with e _
    rw [List.getElem?_eq_getElem hk, e] at h1
    injection h1 with h1
    rw [h1]
    rfl
set_option maxRecDepth 100000 in
theorem cut_none (s : ByteArray) (w : World) (h : Lib.indexByte s.data.toList 46 = -1) :
    Calls Tryz.prog 144 #[.string s, .string ⟨#[46]⟩] w fun e w' => e = .returned (.tuple #[.string s, .string ⟨#[]⟩, .bool false]) ∧ Below w.heap.size w w' := by
  have HC := Lib.hid (fun W => Tryz.stringslite_Index_one s 46 W)
  rw [h] at HC
  clear h
  go_enter Tryz.func144, Tryz.ntmps144
  go_wp2_with fail
  refine (HC.out _).mono ?_
  rintro e w' ⟨rfl, rfl⟩
  go_wp2
  refine bodyPost_ret (v := .tuple #[.string s, .string ⟨#[]⟩, .bool false]) (by simp [results, Tryz.results144, go_sem]) rfl ?_
  exact ⟨rfl, Below.refl _ _⟩
set_option maxRecDepth 100000 in
theorem cut_some (s : ByteArray) (k : Nat) (w : World) (hs : s.size ≤ 1000000) (hk : k < s.size) (h : Lib.indexByte s.data.toList 46 = (k : Int)) :
    Calls Tryz.prog 144 #[.string s, .string ⟨#[46]⟩] w fun e w' => e = .returned (.tuple #[.string (s.extract 0 k), .string (s.extract (k + 1) s.size), .bool true]) ∧ Below w.heap.size w w' := by
  have HC := Lib.hid (fun W => Tryz.stringslite_Index_one s 46 W)
  rw [h] at HC
  have hz : ByteArray.size ⟨#[46]⟩ = 1 := rfl
  have w1 : wrap64 ((k : Int) + 1) = (k : Int) + 1 := by rw [wrap64]; omega
  have q1 : decide ((0 : Int) ≤ (k : Int)) = true := decide_eq_true (by omega)
  clear h
  go_enter Tryz.func144, Tryz.ntmps144
  go_wp2_with fail
  refine (HC.out _).mono ?_
  rintro e w' ⟨rfl, rfl⟩
  go_wp2
  go_region
  all_goals go_wp2
  all_goals (refine bodyPost_ret (v := .tuple #[.string (s.extract 0 k), .string (s.extract (k + 1) s.size), .bool true]) (by simp [results, Tryz.results144, go_sem]) rfl ?_)
  all_goals exact ⟨rfl, (Below.refl _ _).drew⟩
end Go.Proofs.YtpkgiemdnfbopaaGreat
namespace Go.Proofs.YtpkgiemdnfbopaaGreat
open Go Go.RowKit
open Pl (K Con)
set_option linter.unusedSimpArgs false
set_option linter.unusedVariables false

theorem cutS_none (s : ByteArray) (w : World) (h : Lib.indexByte s.data.toList 46 = -1) :
    Calls Tryz.prog 113 #[.string s, .string ⟨#[46]⟩] w fun e w' => e = .returned (.tuple #[.string s, .string ⟨#[]⟩, .bool false]) ∧ Below w.heap.size w w' := by
  have HC := Lib.hid (cut_none s w h)
  go_enter Tryz.func113, Tryz.ntmps113
  go_wp2_with fail
  refine HC.out.mono ?_
  rintro e w' ⟨rfl, hb⟩
  have HB := Lib.hid hb
  clear hb
  go_wp2
  refine bodyPost_ret (v := .tuple #[.string s, .string ⟨#[]⟩, .bool false]) (by simp [results, Tryz.results113, go_sem]) rfl ?_
  exact ⟨rfl, HB.out⟩
theorem cutS_some (s : ByteArray) (k : Nat) (w : World) (hs : s.size ≤ 1000000) (hk : k < s.size) (h : Lib.indexByte s.data.toList 46 = (k : Int)) :
    Calls Tryz.prog 113 #[.string s, .string ⟨#[46]⟩] w fun e w' => e = .returned (.tuple #[.string (s.extract 0 k), .string (s.extract (k + 1) s.size), .bool true]) ∧ Below w.heap.size w w' := by
  have HC := Lib.hid (cut_some s k w hs hk h)
  generalize s.extract 0 k = x at *
  generalize s.extract (k + 1) s.size = y at *
  go_enter Tryz.func113, Tryz.ntmps113
  go_wp2_with fail
  refine HC.out.mono ?_
  rintro e w' ⟨rfl, hb⟩
  have HB := Lib.hid hb
  clear hb
  go_wp2
  refine bodyPost_ret (v := .tuple #[.string x, .string y, .bool true]) (by simp [results, Tryz.results113, go_sem]) rfl ?_
  exact ⟨rfl, HB.out⟩
set_option maxRecDepth 100000 in
theorem ccname_any (s : ByteArray) (w : World) (hs : s.size ≤ maxLen) :
    Calls Tryz.prog 58 #[.string s] w fun e w' => e = .returned (.bool (Pl.cname s.toList)) ∧ Below w.heap.size w w' := by
  unfold maxLen at hs
  by_cases h48 : 48 < s.size
  · have q1 : decide ((48 : Int) < (s.size : Int)) = true := decide_eq_true (by omega)
    have HF := Lib.hid (Pl.cname_long s.toList (by rw [Pl.len_size]; exact h48))
    go_enter Tryz.func58, Tryz.ntmps58
    go_wp2
    go_ret
    exact ⟨by rw [HF.out]; rfl, Below.refl _ _⟩
  have q1 : decide ((48 : Int) < (s.size : Int)) = false := decide_eq_false (by omega)
  have hge := Lib.indexByte_ge s.data.toList 46
  by_cases hi : Lib.indexByte s.data.toList 46 = -1
  · have HV := Lib.hid (Pl.cname_none s.toList (dot_none s hi))
    have HC := Lib.hid (cutS_none s w hi)
    have HA := Lib.hid (fun W => number_any ⟨#[]⟩ W (Nat.zero_le _))
    generalize (Pl.number (ByteArray.toList ⟨#[]⟩)).1 = z at *
    generalize (Pl.number (ByteArray.toList ⟨#[]⟩)).2 = y at *
    clear hi hge
    go_enter Tryz.func58, Tryz.ntmps58
    go_wp2_with fail
    refine HC.out.mono ?_
    rintro e w3 ⟨rfl, hb⟩
    have HB := Lib.hid hb
    clear hb
    go_wp2_with fail
    refine (HA.out _).mono ?_
    rintro e w' ⟨rfl, rfl⟩
    go_wp2
    go_ret
    exact ⟨by rw [HV.out]; rfl, HB.out⟩
  · obtain ⟨k, hk⟩ : ∃ k : Nat, Lib.indexByte s.data.toList 46 = (k : Int) := ⟨(Lib.indexByte s.data.toList 46).toNat, by omega⟩
    obtain ⟨hks, ha, hp⟩ := dot_some s k hk
    have HV := Lib.hid (Pl.cname_at s k hks (by omega) ha hp)
    have HC := Lib.hid (cutS_some s k w (by omega) hks hk)
    have HA := Lib.hid (fun W => number_any (s.extract (k + 1) s.size) W (by rw [ByteArray.size_extract]; unfold maxLen; omega))
    have HB := Lib.hid (fun W => isUpper_any (s.extract 0 k) W (by rw [ByteArray.size_extract]; unfold maxLen; omega))
    rw [Pl.extract_end] at HA
    rw [show (s.extract 0 k).toList = s.toList.take k from by rw [Lib.extract_toList, ← Pl.toList_eq]; simp] at HB
    generalize s.extract 0 k = e1 at *
    generalize s.extract (k + 1) s.size = e2 at *
    generalize Pl.isUpper (s.toList.take k) = r at *
    generalize (Pl.number (s.toList.drop (k + 1))).2 = y at *
    generalize (Pl.number (s.toList.drop (k + 1))).1 = z at *
    clear hi hge hk ha hp
    go_enter Tryz.func58, Tryz.ntmps58
    go_wp2_with fail
    refine HC.out.mono ?_
    rintro e w3 ⟨rfl, hb⟩
    have HBB := Lib.hid hb
    clear hb
    go_wp2_with fail
    refine (HA.out _).mono ?_
    rintro e w' ⟨rfl, rfl⟩
    go_wp2_with fail
    refine (HB.out _).mono ?_
    rintro e w' ⟨rfl, rfl⟩
    cases r
    · go_wp2
      go_ret
      exact ⟨by rw [HV.out]; rfl, HBB.out⟩
    · by_cases hy : y = 0
      · subst hy
        go_wp2
        go_ret
        exact ⟨by rw [HV.out]; rfl, HBB.out⟩
      · have q7 : (y == 0) = false := by simpa using hy
        have HY := Lib.hid (decide_eq_false hy)
        clear hy
        go_wp2
        go_ret
        exact ⟨by rw [HV.out, HY.out]; rfl, HBB.out⟩
set_option maxRecDepth 100000 in
theorem clabels_any (P : Nat → Prop) (zs : List ByteArray) (w : World) (v : Value) (hP : ∀ b, P b → b < w.heap.size) (hz : StrSl w P v zs) :
    Calls Tryz.prog 201 #[v] w fun e w' => e = .returned (.bool (Con.labelsOk zs)) ∧ Below w.heap.size w w' := by
  have HA := Lib.hid (allS_any 209 (fun _ _ => rfl) (fun z => Pl.isLabel z.toList) (fun z W h => (isLabel_any z W h).mono (fun e w' he => ⟨he.1, by rw [← he.2]; exact Below.refl _ _⟩)) P zs w v hP hz)
  have HS := Lib.hid (fun W (hW : Below w.heap.size w W) => asc_of ((hz.keep (Same.of_below hW hP)).sliceOf (fun b h => Nat.lt_of_lt_of_le (hP b h) hW.size)))
  obtain ⟨a, c, hv, h1, h2, h3, h4, -⟩ := hz
  subst hv
  obtain ⟨n, hn⟩ : ∃ n, n = zs.length := ⟨_, rfl⟩
  have hn63 : n ≤ 9223372036854775807 := by unfold maxLen at h2; omega
  have HV := Lib.hid (show Con.labelsOk zs = (zs.all (fun z => Pl.isLabel z.toList) && (decide (n ≤ 1000) && asc zs)) from by rw [hn]; rfl)
  generalize Con.labelsOk zs = R at HV ⊢
  rw [← hn] at HA HS ⊢
  generalize hr : zs.all (fun z => Pl.isLabel z.toList) = r1 at *
  generalize hr2 : asc zs = r2 at *
  clear h1 h2 h3 h4 hn hr hr2
  by_cases h1000 : n ≤ 1000
  · have q6 : decide ((n : Int) ≤ 1000) = true := decide_eq_true (by omega)
    rw [decide_eq_true h1000] at HV
    clear h1000
    go_enter Tryz.func201, Tryz.ntmps201
    go_wp2_with fail
    refine HA.out.mono ?_
    rintro e w3 ⟨rfl, hb⟩
    have HB := Lib.hid hb
    have HS3 := Lib.hid (HS.out _ hb)
    clear hb
    cases r1
    · go_wp2
      go_ret
      exact ⟨by rw [HV.out]; rfl, HB.out⟩
    go_wp2_with fail
    refine HS3.out.mono ?_
    rintro e w' ⟨rfl, rfl⟩
    go_wp2
    go_ret
    exact ⟨by rw [HV.out]; rfl, HB.out⟩
  · have q6 : decide ((n : Int) ≤ 1000) = false := decide_eq_false (by omega)
    rw [decide_eq_false h1000, Bool.false_and, Bool.and_false] at HV
    clear h1000
    go_enter Tryz.func201, Tryz.ntmps201
    go_wp2
    go_ret
    exact ⟨by rw [HV.out]; rfl, Below.refl _ _⟩
end Go.Proofs.YtpkgiemdnfbopaaGreat
namespace Go.Proofs.YtpkgiemdnfbopaaGreat
open Go Go.RowKit
open Pl (K Con)
set_option linter.unusedSimpArgs false
set_option linter.unusedVariables false

def namesFitB (op : Int) (zs : List ByteArray) : Bool := if op = 7 ∨ op = 8 then Con.labelsOk zs else decide (zs.length = 0)
theorem shape_eq (t : Con) : (partsFitB t.op t.l.length t.names.length && namesFitB t.op t.names) = ((decide (1 ≤ t.op) && decide (t.op ≤ 13)) && Con.shapeB t) := by
  unfold Con.shapeB
  have e0 : decide ((t.l.length : Int) = 0) = decide (t.l.length = 0) := by rw [Bool.eq_iff_iff, decide_eq_true_eq, decide_eq_true_eq]; omega
  have e1 : decide ((t.l.length : Int) = 1) = decide (t.l.length = 1) := by rw [Bool.eq_iff_iff, decide_eq_true_eq, decide_eq_true_eq]; omega
  have e2 : decide ((t.l.length : Int) = 2) = decide (t.l.length = 2) := by rw [Bool.eq_iff_iff, decide_eq_true_eq, decide_eq_true_eq]; omega
  unfold namesFitB
  generalize t.op = op at *
  generalize Con.labelsOk t.names = L at *
  generalize t.names.length = nn at *
  generalize t.l.length = ln at *
  by_cases hr : 1 ≤ op ∧ op ≤ 13
  · rw [decide_eq_true hr.1, decide_eq_true hr.2]
    have h : op = 1 ∨ op = 2 ∨ op = 3 ∨ op = 4 ∨ op = 5 ∨ op = 6 ∨ op = 7 ∨ op = 8 ∨ op = 9 ∨ op = 10 ∨ op = 11 ∨ op = 12 ∨ op = 13 := by omega
    rcases h with h | h | h | h | h | h | h | h | h | h | h | h | h <;> subst h
    · show _ = (true && (decide ((ln : Int) = 0) && decide (nn = 0))); rw [e0]; rfl
    · show _ = (true && (decide ((ln : Int) = 0) && decide (nn = 0))); rw [e0]; rfl
    · show _ = (true && (decide ((ln : Int) = 0) && decide (nn = 0))); rw [e0]; rfl
    · show _ = (true && (decide ((ln : Int) = 0) && decide (nn = 0))); rw [e0]; rfl
    · show _ = (true && (decide ((ln : Int) = 0) && decide (nn = 0))); rw [e0]; rfl
    · show _ = (true && (decide ((ln : Int) = 2) && decide (nn = 0))); rw [e2]; rfl
    · rfl
    · rfl
    · show _ = (true && (decide ((ln : Int) = 1) && decide (nn = 0))); rw [e1]; rfl
    · show _ = (true && (decide ((ln : Int) = 1) && decide (nn = 0))); rw [e1]; rfl
    · show _ = (true && (decide ((ln : Int) = 1) && decide (nn = 0))); rw [e1]; rfl
    · show _ = (true && (decide ((ln : Int) = 2) && decide (nn = 0))); rw [e2]; rfl
    · show _ = (true && (decide ((ln : Int) = 1) && decide (nn = 0))); rw [e1]; rfl
  · have h1 : (decide (1 ≤ op) && decide (op ≤ 13)) = false := by
      rw [Bool.and_eq_false_iff, decide_eq_false_iff_not, decide_eq_false_iff_not]; omega
    rw [h1, Bool.false_and]
    unfold partsFitB
    rw [if_neg (by omega), if_neg (by omega), if_neg (by omega), if_neg (by omega), Bool.false_and]
theorem form_eq9 (t : Con) : Con.nodeB t = (partsFitB t.op t.l.length t.names.length && (numFitB t.op t.n && (Con.strB t && (namesFitB t.op t.names && Con.kindB t)))) := by
  have h := shape_eq t
  unfold Con.nodeB
  rw [← Bool.and_assoc, ← h]
  rw [show Con.numB t = numFitB t.op t.n from rfl]
  generalize partsFitB t.op t.l.length t.names.length = a
  generalize namesFitB t.op t.names = b
  generalize numFitB t.op t.n = c
  generalize Con.strB t = d
  generalize Con.kindB t = e
  cases a <;> cases b <;> cases c <;> cases d <;> cases e <;> rfl

set_option maxRecDepth 100000 in
theorem textFit_any (o : Nat) (b : Nat) (t : Con) (ka na la : Option Addr) (kn kc nn nc ln lc : Nat) (w : World) (hs : t.s.size ≤ maxLen) (c0 : w.cell? ⟨b, o, none⟩ = some (.int .i64 t.op)) (c2 : w.cell? ⟨b, o + 2, none⟩ = some (.string t.s)) :
    Calls Tryz.prog 180 #[.pointer (some ⟨b, o, none⟩)] w fun e w' => e = .returned (.bool (Con.strB t)) ∧ Below w.heap.size w w' := by
  have HV := Lib.hid (show Con.strB t = if t.op = 2 then Pl.cname t.s.toList else decide (t.s.toList = []) from rfl)
  have HC := Lib.hid (ccname_any t.s w hs)
  generalize t.op = op at *
  generalize t.s = s at *
  generalize Con.strB t = R at *
  generalize Pl.cname s.toList = r at *
  by_cases h2 : op = 2
  · subst h2
    rw [if_pos rfl] at HV
    go_enter Tryz.func180, Tryz.ntmps180
    go_wp2_with fail
    refine HC.out.mono ?_
    rintro e w3 ⟨rfl, hb⟩
    have HB := Lib.hid hb
    clear hb
    go_wp2
    go_ret
    exact ⟨by rw [HV.out]; rfl, HB.out⟩
  · have q2 : (op == 2) = false := beq_eq_false_iff_ne.2 h2
    rw [if_neg h2] at HV
    by_cases h3 : s.toList = []
    · have q3 : (s.toList == []) = true := by rw [h3]; rfl
      rw [decide_eq_true h3] at HV
      clear h2 h3
      go_enter Tryz.func180, Tryz.ntmps180
      go_wp2
      go_ret
      exact ⟨by rw [HV.out]; rfl, Below.refl _ _⟩
    · have q3 : (s.toList == []) = false := by simpa using h3
      rw [decide_eq_false h3] at HV
      clear h2 h3
      go_enter Tryz.func180, Tryz.ntmps180
      go_wp2
      go_ret
      exact ⟨by rw [HV.out]; rfl, Below.refl _ _⟩
set_option maxRecDepth 100000 in
theorem namesFit_any (P : Nat → Prop) (o : Nat) (b : Nat) (t : Con) (ka na la : Option Addr) (kn kc nn nc ln lc : Nat) (w : World) (hP : ∀ b, P b → b < w.heap.size) (hz : StrSl w P (.slice na nn nc) t.names) (c0 : w.cell? ⟨b, o, none⟩ = some (.int .i64 t.op)) (c4 : w.cell? ⟨b, o + 4, none⟩ = some (.slice na nn nc)) :
    Calls Tryz.prog 181 #[.pointer (some ⟨b, o, none⟩)] w fun e w' => e = .returned (.bool (namesFitB t.op t.names)) ∧ Below w.heap.size w w' := by
  have HV := Lib.hid (show namesFitB t.op t.names = if t.op = 7 ∨ t.op = 8 then Con.labelsOk t.names else decide (nn = 0) from by
    obtain ⟨a, c, e, -⟩ := hz
    injection e with _ e _
    rw [e]; rfl)
  have HC := Lib.hid (clabels_any P t.names w _ hP hz)
  generalize t.op = op at *
  generalize Con.labelsOk t.names = r at *
  generalize namesFitB op t.names = R at *
  have HQ := Lib.hid (nat_beq0 nn)
  clear hz hP
  by_cases h7 : op = 7
  · subst h7
    rw [if_pos (.inl rfl)] at HV
    go_enter Tryz.func181, Tryz.ntmps181
    go_wp2_with fail
    refine HC.out.mono ?_
    rintro e w3 ⟨rfl, hb⟩
    have HB := Lib.hid hb
    clear hb
    go_wp2
    go_ret
    exact ⟨by rw [HV.out]; rfl, HB.out⟩
  by_cases h8 : op = 8
  · subst h8
    rw [if_pos (.inr rfl)] at HV
    go_enter Tryz.func181, Tryz.ntmps181
    go_wp2_with fail
    refine HC.out.mono ?_
    rintro e w3 ⟨rfl, hb⟩
    have HB := Lib.hid hb
    clear hb
    go_wp2
    go_ret
    exact ⟨by rw [HV.out]; rfl, HB.out⟩
  have q7 : (op == 7) = false := beq_eq_false_iff_ne.2 h7
  have q8 : (op == 8) = false := beq_eq_false_iff_ne.2 h8
  rw [if_neg (by omega)] at HV
  clear h7 h8
  go_enter Tryz.func181, Tryz.ntmps181
  go_wp2
  go_ret
  exact ⟨by rw [HV.out, ← HQ.out]; rfl, Below.refl _ _⟩
set_option maxRecDepth 100000 in
theorem kindFit_any (P : Nat → Prop) (o : Nat) (b : Nat) (t : Con) (ka na la : Option Addr) (kn kc nn nc ln lc : Nat) (w : World) (hP : ∀ b, P b → b < w.heap.size) (hz : KidV w P t.kind (.slice ka kn kc)) (c0 : w.cell? ⟨b, o, none⟩ = some (.int .i64 t.op)) (c3 : w.cell? ⟨b, o + 3, none⟩ = some (.slice ka kn kc)) :
    Calls Tryz.prog 182 #[.pointer (some ⟨b, o, none⟩)] w fun e w' => e = .returned (.bool (Con.kindB t)) ∧ Below w.heap.size w w' := by
  have HV := Lib.hid (show Con.kindB t = if t.op = 2 ∨ Con.binder t.op = true then K.valid t.kind else decide (kn = 0) from by
    obtain ⟨a, c, e⟩ := hz.shape
    injection e with _ e _
    rw [e]; rfl)
  have HC := Lib.hid (valid_any P t.kind w (.agg #[.slice ka kn kc]) hP ⟨_, rfl, hz⟩)
  have HB := Lib.hid (cbinder_any t.op w)
  have HQ := Lib.hid (nat_beq0 kn)
  generalize t.op = op at *
  generalize Con.kindB t = R at *
  generalize K.valid t.kind = r at *
  clear hz hP
  by_cases h2 : op = 2
  · subst h2
    rw [if_pos (.inl rfl)] at HV
    go_enter Tryz.func182, Tryz.ntmps182
    go_wp2_with fail
    refine HC.out.mono ?_
    rintro e w3 ⟨rfl, hb⟩
    have HB := Lib.hid hb
    clear hb
    go_wp2
    go_ret
    exact ⟨by rw [HV.out]; rfl, HB.out⟩
  have q2 : (op == 2) = false := beq_eq_false_iff_ne.2 h2
  cases hb : Con.binder op
  · rw [hb] at HB HV
    rw [if_neg (by rintro (h | h); exact h2 h; cases h)] at HV
    clear h2 hb
    go_enter Tryz.func182, Tryz.ntmps182
    go_wp2_with fail
    refine HB.out.mono ?_
    rintro e w' ⟨rfl, rfl⟩
    go_wp2
    go_ret
    exact ⟨by rw [HV.out, ← HQ.out]; rfl, Below.refl _ _⟩
  · rw [hb] at HB HV
    rw [if_pos (.inr rfl)] at HV
    clear h2 hb
    go_enter Tryz.func182, Tryz.ntmps182
    go_wp2_with fail
    refine HB.out.mono ?_
    rintro e w' ⟨rfl, rfl⟩
    go_wp2_with fail
    refine HC.out.mono ?_
    rintro e w3 ⟨rfl, hb⟩
    have HB := Lib.hid hb
    clear hb
    go_wp2
    go_ret
    exact ⟨by rw [HV.out]; rfl, HB.out⟩
/-- six cells of a place lie on -/
theorem cells_on {w w' : World} {b o : Nat} {v : Value} (h : Cells6 w b o v) (hb : b < w.heap.size) (hw : Below w.heap.size w w') : Cells6 w' b o v := h.keep (P := fun q => q = b) (fun q hq => hw.block q (by rw [hq]; exact hb)) rfl
set_option maxRecDepth 100000 in
theorem hasForm_any (P : Nat → Prop) (o b : Nat) (t : Con) (w : World) (v : Value) (hP : ∀ b, P b → b < w.heap.size) (hb : b < w.heap.size) (ht : ConV w P t v) (hc : Cells6 w b o v) :
    Calls Tryz.prog 138 #[.pointer (some ⟨b, o, none⟩)] w fun e w' => e = .returned (.bool (Con.nodeB t)) ∧ Below w.heap.size w w' := by
  have HV := Lib.hid (form_eq9 t)
  have HQ := Lib.hid (fun W (hW : Below w.heap.size w W) => (show ConV W P t v ∧ Cells6 W b o v ∧ ∀ b, P b → b < W.heap.size from ⟨ht.keep (Same.of_below hW hP), cells_on hc hb hW, fun b h => Nat.lt_of_lt_of_le (hP b h) hW.size⟩))
  obtain ⟨kv, nv, la, lc, hv, hs, -⟩ := ht.open
  obtain ⟨ka, kn, kc, na, nn, nc, la', ln, lc', hv2, hkn, hnn, hln⟩ := ht.shape
  subst hv2
  subst hln
  have HCELLS := Lib.hid (fun W (hW : Below w.heap.size w W) => (show W.cell? ⟨b, o, none⟩ = some (.int .i64 t.op) ∧ W.cell? ⟨b, o + 1, none⟩ = some (.int .i64 t.n) ∧ W.cell? ⟨b, o + 2, none⟩ = some (.string t.s) ∧ W.cell? ⟨b, o + 3, none⟩ = some (.slice ka kn kc) ∧ W.cell? ⟨b, o + 4, none⟩ = some (.slice na nn nc) ∧ W.cell? ⟨b, o + 5, none⟩ = some (.slice la' t.l.length lc') ∧ KidV W P t.kind (.slice ka kn kc) ∧ StrSl W P (.slice na nn nc) t.names ∧ ∀ b, P b → b < W.heap.size from by
    obtain ⟨h1, h2, h3⟩ := HQ.out W hW
    obtain ⟨x0, x1, x2, x3, x4, x5, e, g0, g1, g2, g3, g4, g5⟩ := h2
    simp only [Value.agg.injEq, Array.mk.injEq, List.cons.injEq, and_true] at e
    obtain ⟨rfl, rfl, rfl, rfl, rfl, rfl⟩ := e
    obtain ⟨-, kv', nv', lv', e, hk, hn, -⟩ := (conV_iff _ _ _ _).1 h1
    simp only [Value.agg.injEq, Array.mk.injEq, List.cons.injEq, and_true, true_and] at e
    obtain ⟨rfl, rfl, rfl⟩ := e
    exact ⟨g0, g1, g2, g3, g4, g5, hk, hn, h3⟩))
  have H1 := Lib.hid (fun W (hW : Below w.heap.size w W) => let h := HCELLS.out W hW; partsFit_any o b t.op t.n t.s ka na la' kn kc nn nc t.l.length lc' W h.1 h.2.2.2.2.1 h.2.2.2.2.2.1)
  have H2 := Lib.hid (fun W (hW : Below w.heap.size w W) => let h := HCELLS.out W hW; numFit_any o b t.op t.n t.s ka na la' kn kc nn nc t.l.length lc' W h.1 h.2.1)
  have H3 := Lib.hid (fun W (hW : Below w.heap.size w W) => let h := HCELLS.out W hW; textFit_any o b t ka na la' kn kc nn nc t.l.length lc' W hs h.1 h.2.2.1)
  have H4 := Lib.hid (fun W (hW : Below w.heap.size w W) => let h := HCELLS.out W hW; namesFit_any P o b t ka na la' kn kc nn nc t.l.length lc' W h.2.2.2.2.2.2.2.2 h.2.2.2.2.2.2.2.1 h.1 h.2.2.2.2.1)
  have H5 := Lib.hid (fun W (hW : Below w.heap.size w W) => let h := HCELLS.out W hW; kindFit_any P o b t ka na la' kn kc nn nc t.l.length lc' W h.2.2.2.2.2.2.2.2 h.2.2.2.2.2.2.1 h.1 h.2.2.2.1)
  rw [← hnn] at HV
  generalize partsFitB t.op t.l.length nn = r1 at *
  generalize numFitB t.op t.n = r2 at *
  generalize Con.strB t = r3 at *
  generalize namesFitB t.op t.names = r4 at *
  generalize Con.kindB t = r5 at *
  generalize Con.nodeB t = R at *
  clear HCELLS HQ hc ht hv hkn hP hnn
  have HB0 := Lib.hid (Below.refl w.heap.size w)
  go_enter Tryz.func138, Tryz.ntmps138
  go_wp2_with fail
  refine (H1.out _ HB0.out).mono ?_
  rintro e w' ⟨rfl, rfl⟩
  cases r1
  · go_wp2
    go_ret
    exact ⟨by rw [HV.out]; rfl, HB0.out⟩
  go_wp2_with fail
  refine (H2.out _ HB0.out).mono ?_
  rintro e w' ⟨rfl, rfl⟩
  cases r2
  · go_wp2
    go_ret
    exact ⟨by rw [HV.out]; rfl, HB0.out⟩
  go_wp2_with fail
  refine (H3.out _ HB0.out).mono ?_
  rintro e w3 ⟨rfl, hb3⟩
  have HB3 := Lib.hid hb3
  clear hb3
  cases r3
  · go_wp2
    go_ret
    exact ⟨by rw [HV.out]; rfl, HB3.out⟩
  go_wp2_with fail
  refine (H4.out _ HB3.out).mono ?_
  rintro e w4 ⟨rfl, hb4⟩
  have HB4 := Lib.hid (belowStep hb4 HB3.out)
  clear hb4
  cases r4
  · go_wp2
    go_ret
    exact ⟨by rw [HV.out]; rfl, HB4.out⟩
  go_wp2_with fail
  refine (H5.out _ HB4.out).mono ?_
  rintro e w5 ⟨rfl, hb5⟩
  have HB5 := Lib.hid (belowStep hb5 HB4.out)
  clear hb5
  go_wp2
  go_ret
  exact ⟨by rw [HV.out]; rfl, HB5.out⟩
end Go.Proofs.YtpkgiemdnfbopaaGreat
namespace Go.Proofs.YtpkgiemdnfbopaaGreat
open Go Go.RowKit
open Pl (K Con)
set_option linter.unusedSimpArgs false
set_option linter.unusedVariables false

/-- right, within so many nodes and levels -/
def fwB (t : Con) (L d : Int) : Bool := Con.allB t && (decide ((t.size : Int) ≤ L) && decide ((t.depth : Int) ≤ d))
def fwsB (l : List Con) (L d : Int) : Bool := l.all Con.allB && (decide ((Con.sizes l : Int) ≤ L) && decide ((Con.depths l : Int) ≤ d))
theorem fwB_node (t : Con) (L d : Int) : fwB t L d = ((Con.nodeB t && (decide (1 ≤ L) && decide (1 ≤ d))) && fwsB t.l (L - 1) (d - 1)) := by
  unfold fwB fwsB
  rw [Con.size_eq, Con.depth_eq, allB_eq, Bool.eq_iff_iff]
  simp only [Bool.and_eq_true, decide_eq_true_eq]
  constructor
  · rintro ⟨⟨h1, h2⟩, h3, h4⟩
    exact ⟨⟨h1, by omega, by omega⟩, h2, by omega, by omega⟩
  · rintro ⟨⟨h1, h2, h3⟩, h4, h5, h6⟩
    exact ⟨⟨h1, h4⟩, by omega, by omega⟩
theorem fwsB_take (l : List Con) (k : Nat) (hk : k < l.length) (L d : Int) : fwsB (l.take (k + 1)) L d = (fwsB (l.take k) L d && fwB l[k] (L - (Con.sizes (l.take k) : Int)) d) := by
  unfold fwsB fwB
  rw [Con.sizes_take l k hk, Con.depths_take l k hk, all_take_step Con.allB l k hk, Bool.eq_iff_iff]
  simp only [Bool.and_eq_true, decide_eq_true_eq]
  constructor
  · rintro ⟨⟨h1, h2⟩, h3, h4⟩
    exact ⟨⟨h1, by omega, by omega⟩, h2, by omega, by omega⟩
  · rintro ⟨⟨h1, h2, h3⟩, h4, h5, h6⟩
    exact ⟨⟨h1, h4⟩, by omega, by omega⟩
theorem fwsB_le (l : List Con) (k : Nat) (L d : Int) (h : fwsB (l.take k) L d = false) : fwsB l L d = false := by
  cases h2 : fwsB l L d
  · rfl
  · rw [← h]
    unfold fwsB at h2 ⊢
    simp only [Bool.and_eq_true, decide_eq_true_eq] at h2
    obtain ⟨h5, h3, h4⟩ := h2
    have h6 := Con.sizes_le l k
    have h7 := Con.depths_le l k
    symm
    simp only [Bool.and_eq_true, decide_eq_true_eq]
    refine ⟨?_, by omega, by omega⟩
    rw [List.all_eq_true] at h5 ⊢
    exact fun x hx => h5 x (List.mem_of_mem_take hx)
theorem fwsB_nil (L d : Int) (h1 : 0 ≤ L) (h2 : 0 ≤ d) : fwsB [] L d = true := by
  unfold fwsB
  rw [Con.sizes_nil, Con.depths_nil, decide_eq_true (by omega : ((0 : Nat) : Int) ≤ L), decide_eq_true (by omega : ((0 : Nat) : Int) ≤ d)]
  rfl
theorem fwB_valid (t : Con) : fwB t 20000 400 = Con.validB t := by
  unfold fwB Con.validB Con.small
  rw [Bool.eq_iff_iff]
  simp only [Bool.and_eq_true, decide_eq_true_eq]
  constructor
  · rintro ⟨h1, h2, h3⟩; exact ⟨⟨by omega, by omega⟩, h1⟩
  · rintro ⟨⟨h1, h2⟩, h3⟩; exact ⟨h3, by omega, by omega⟩
/-- what the code's count leaves behind -/
def IsW (N : Nat) (t : Con) (left d : Int) (w : World) (e : Ending) (w' : World) : Prop :=
  ∃ c : Int, e = .returned (.bool (fwB t left d)) ∧ Blk w' N 3 #[.int .i64 c] ∧ 0 ≤ c ∧ c ≤ left ∧ (fwB t left d = true → c = left - t.size) ∧ Only N w w'
theorem cells_only6 {N : Nat} {w w' : World} {b o : Nat} {v : Value} (h : Cells6 w b o v) (hb : b < w.heap.size) (hn : b ≠ N) (hw : Only N w w') : Cells6 w' b o v := h.keep (P := fun q => q = b) (fun q hq => World.grownBy.block hw q (by rw [hq]; exact hb) (fun e => by injection e with e; rw [hq] at e; exact hn e)) rfl
theorem Same.of_only {P : Nat → Prop} {N : Nat} {w w' : World} (h : Only N w w') (hP : ∀ b, P b → b < w.heap.size ∧ b ≠ N) : Same P w w' := fun b hb => World.grownBy.block h b (hP b hb).1 (fun e => by injection e with e; exact (hP b hb).2 e)
theorem only_below {N : Nat} {w w' : World} (h : Below w.heap.size w w') : Only N w w' := (Only.refl N w).below h (Nat.le_refl _)
set_option maxRecDepth 100000 in
set_option maxHeartbeats 1000000 in
theorem isWell_any (P : Nat → Prop) (N : Nat) (t : Con) : ∀ (left d : Int) (b o : Nat) (w : World) (v : Value), (∀ q, P q → q < w.heap.size ∧ q ≠ N) → b < w.heap.size → b ≠ N → Blk w N 3 #[.int .i64 left] → ConV w P t v → Cells6 w b o v → 0 ≤ left → left ≤ 1000000 → 0 ≤ d → d ≤ 1000000 →
    Calls Tryz.prog 106 #[.pointer (some ⟨b, o, none⟩), .pointer (some ⟨N, 0, none⟩), .int .i64 d] w (IsW N t left d w) := by
  induction t using Con.ind with
  | h t ih =>
  intro left d b o w v hP hb hbN hN ht hc hl0 hl1 hd0 hd1
  have HIH := Lib.hid ih
  have HNODE := Lib.hid (fwB_node t left d)
  have w1 : wrap64 (left - 1) = left - 1 := by rw [wrap64]; omega
  have w2 : wrap64 (d - 1) = d - 1 := by rw [wrap64]; omega
  have cn := hN.cell 0 (.int .i64 left) rfl
  have fn := hN.thaw 0
  have HN := Lib.hid hN
  have HP := Lib.hid hP
  clear ih
  by_cases h1 : left = 0
  · subst h1
    have HF := Lib.hid (show fwB t 0 d = false from by rw [HNODE.out, decide_eq_false (by omega : ¬ (1 : Int) ≤ 0), Bool.false_and, Bool.and_false, Bool.false_and])
    clear ht hc hN
    go_enter Tryz.func106, Tryz.ntmps106
    go_wp2
    go_ret
    exact ⟨0, by rw [HF.out]; rfl, HN.out, by omega, by omega, (fun h => by rw [HF.out] at h; cases h), Only.refl _ _⟩
  have q1 : (left == 0) = false := beq_eq_false_iff_ne.2 h1
  by_cases h2 : d = 0
  · subst h2
    have HF := Lib.hid (show fwB t left 0 = false from by rw [HNODE.out, decide_eq_false (by omega : ¬ (1 : Int) ≤ 0), Bool.and_false, Bool.and_false, Bool.false_and])
    clear ht hc hN
    go_enter Tryz.func106, Tryz.ntmps106
    go_wp2
    go_ret
    exact ⟨left, by rw [HF.out]; rfl, HN.out, by omega, by omega, (fun h => by rw [HF.out] at h; cases h), Only.refl _ _⟩
  have q2 : (d == 0) = false := beq_eq_false_iff_ne.2 h2
  rw [decide_eq_true (by omega : 1 ≤ left), decide_eq_true (by omega : 1 ≤ d), Bool.and_true, Bool.and_true] at HNODE
  have HF := Lib.hid (hasForm_any P o b t w v (fun q hq => (hP q hq).1) hb ht hc)
  have HSL := Lib.hid (fun W (hW : Only N w W) => (ht.keep (Same.of_only hW hP)))
  have HCC := Lib.hid (fun W (hW : Only N w W) => cells_only6 hc hb hbN hW)
  obtain ⟨ka, kn, kc, na, nn, nc, la, ln, lc, rfl, -, -, hln⟩ := ht.shape
  obtain ⟨n, hn⟩ : ∃ n, n = t.l.length := ⟨_, rfl⟩
  have HLN := Lib.hid hn
  rw [← hn] at hln
  subst hln
  have hn63 : ln ≤ 9223372036854775807 := by
    obtain ⟨_, _, _, _, _, _, _, _, h5, h6, _⟩ := ht.open
    have h5 : t.l.length ≤ _ := h5
    unfold maxLen at *
    omega
  have HLC := Lib.hid (fun W (hW : Only N w W) => (show W.cell? ⟨b, o + 5, none⟩ = some (.slice la ln lc) from by
    obtain ⟨x0, x1, x2, x3, x4, x5, e, g0, g1, g2, g3, g4, g5⟩ := HCC.out W hW
    simp only [Value.agg.injEq, Array.mk.injEq, List.cons.injEq, and_true] at e
    obtain ⟨rfl, rfl, rfl, rfl, rfl, rfl⟩ := e
    exact g5))
  have HBN := Lib.hid hbN
  have HBS := Lib.hid hb
  have hl2 : 1 ≤ left := by omega
  have hd2 : 1 ≤ d := by omega
  clear ht hc hn hP h1 h2 HCC hN
  go_enter Tryz.func106, Tryz.ntmps106
  go_wp2_with fail
  refine HF.out.mono ?_
  rintro e w3 ⟨rfl, hb3⟩
  have HO3 := Lib.hid (only_below (N := N) hb3)
  have HN3 := Lib.hid (HN.out.of_eq (hb3.block _ HN.out.lt))
  clear hb3 cn fn HF
  cases hr : Con.nodeB t
  · have HFF := Lib.hid (show fwB t left d = false from by rw [HNODE.out, hr, Bool.false_and])
    clear hr
    go_wp2
    go_ret
    exact ⟨left, by rw [HFF.out]; rfl, HN3.out, by omega, by omega, (fun h => by rw [HFF.out] at h; cases h), HO3.out⟩
  rw [hr, Bool.true_and] at HNODE
  clear hr
  have HO4 := Lib.hid (show Only N w (w3.setCell ⟨N, 0, none⟩ (.int .i64 (left - 1))) from HO3.out.setCell (p := ⟨N, 0, none⟩) (.inl rfl) _)
  have HN4 := Lib.hid (show Blk (w3.setCell ⟨N, 0, none⟩ (.int .i64 (left - 1))) N 3 #[.int .i64 (left - 1)] from blk_one HN3.out)
  have cn := HN3.out.cell 0 (.int .i64 left) rfl
  have fn := HN3.out.thaw 0
  have g5 := HLC.out _ HO4.out
  go_wp2
  clear cn fn g5
  generalize w3.setCell ⟨N, 0, none⟩ (.int .i64 (left - 1)) = w4 at *
  go_loopg [31] (ln + 1) (fun g i wr => ∃ k : Nat, k ≤ ln ∧ i = .int .i64 k ∧ g = ln + 1 - k ∧ fwsB (t.l.take k) (left - 1) (d - 1) = true ∧ Blk wr N 3 #[.int .i64 (left - 1 - (Con.sizes (t.l.take k) : Int))] ∧ Only N w wr)
  case atStart => exact ⟨0, by omega, rfl, by omega, by rw [List.take_zero]; exact fwsB_nil _ _ (by omega) (by omega), by rw [List.take_zero, Con.sizes_nil]; simpa using HN4.out, HO4.out⟩
  case round =>
    obtain ⟨k, hk, rfl, hg, hin, hnk, hok⟩ := hrel
    have HI := Lib.hid hin
    have HNK := Lib.hid hnk
    have HOK := Lib.hid hok
    have hsl := (show (Con.sizes (t.l.take k) : Int) ≤ left - 1 from by
      have := hin
      unfold fwsB at this
      simp only [Bool.and_eq_true, decide_eq_true_eq] at this
      exact this.2.1)
    have HST := Lib.hid (fun hkl : k < t.l.length => fwsB_take t.l k hkl (left - 1) (d - 1))
    have HSS := Lib.hid (fun hkl : k < t.l.length => Con.sizes_take t.l k hkl)
    clear hin hnk
    by_cases hlt : k < ln
    · have q5 : decide ((k : Int) < (ln : Int)) = true := decide_eq_true (by omega)
      have hkl : k < t.l.length := by rw [← HLN.out]; exact hlt
      have hv := HSL.out wr hok
      rw [conV_iff] at hv
      obtain ⟨-, kv, nv, lv, e, -, -, hsl2⟩ := hv
      simp only [Value.agg.injEq, Array.mk.injEq, List.cons.injEq, and_true, true_and] at e
      obtain ⟨-, -, rfl⟩ := e
      obtain ⟨a5, c5, e5, -, -, hea⟩ := hsl2.each
      obtain ⟨b5, o5, x5, e6, hPb, hcx, hvx⟩ := hea k hkl
      injection e5 with e5 e8 e7
      clear e8
      subst e5 e6 e7
      have HC := Lib.hid (HIH.out t.l[k] (List.getElem_mem hkl) (left - 1 - (Con.sizes (t.l.take k) : Int)) (d - 1) b5 (o5 + k * 6) wr x5 (fun q hq => ⟨Nat.lt_of_lt_of_le (HP.out q hq).1 hok.size, (HP.out q hq).2⟩) (Nat.lt_of_lt_of_le (HP.out b5 hPb).1 hok.size) (HP.out b5 hPb).2 HNK.out hvx hcx (by omega) (by omega) (by omega) (by omega))
      have g5 := HLC.out _ hok
      replace HST := Lib.hid (HST.out hkl)
      replace HSS := Lib.hid (HSS.out hkl)
      have HLE := Lib.hid (fwsB_le t.l (k + 1) (left - 1) (d - 1))
      rw [HI.out, Bool.true_and] at HST
      generalize hz : t.l[k] = z at HC HST HSS
      clear hz hsl2 hea hcx hvx hok hPb HNK
      go_wp2_with fail
      refine HC.out.mono ?_
      rintro e w5 ⟨c, rfl, hnc, hc0, hc1, hcs, ho5⟩
      have HO5 := Lib.hid (HOK.out.trans ho5)
      have HN5 := Lib.hid hnc
      have HCS := Lib.hid hcs
      clear ho5 hnc hcs g5 HC
      generalize hfw : fwB z (left - 1 - (Con.sizes (t.l.take k) : Int)) (d - 1) = r at *
      clear hfw
      cases r
      · have HFF := Lib.hid (show fwB t left d = false from by rw [HNODE.out]; exact HLE.out HST.out)
        clear HIH
        go_wp2
        go_ret
        exact ⟨c, by rw [HFF.out]; rfl, HN5.out, hc0, by omega, (fun h => by rw [HFF.out] at h; cases h), HO5.out⟩
      · have hcc := HCS.out rfl
        have HN6 := Lib.hid (show Blk w5 N 3 #[.int .i64 (left - 1 - (Con.sizes (t.l.take (k + 1)) : Int))] from by
          have h1 := HN5.out
          rw [hcc] at h1
          rw [HSS.out, show left - 1 - ((Con.sizes (t.l.take k) + z.size : Nat) : Int) = left - 1 - (Con.sizes (t.l.take k) : Int) - (z.size : Int) from by omega]
          exact h1)
        clear hcc
        go_wp2
        go_roundg (gk - 1)
        case measure => omega
        case rel => exact ⟨k + 1, by omega, by go_num, by omega, HST.out, HN6.out, HO5.out⟩
    · have q5 : decide ((k : Int) < (ln : Int)) = false := decide_eq_false (by omega)
      have HFF := Lib.hid (show fwB t left d = true ∧ Blk wr N 3 #[.int .i64 (left - t.size)] from by
        have h1 := HI.out
        have h2 := HNK.out
        rw [List.take_of_length_le (by rw [← HLN.out]; omega)] at h1 h2
        refine ⟨by rw [HNODE.out]; exact h1, ?_⟩
        rw [Con.size_eq, show left - ((1 + Con.sizes t.l : Nat) : Int) = left - 1 - (Con.sizes t.l : Int) from by omega]
        exact h2)
      have hsz := (show (t.size : Int) ≤ left from by
        have := HFF.out.1
        unfold fwB at this
        simp only [Bool.and_eq_true, decide_eq_true_eq] at this
        exact this.2.1)
      clear hok HIH
      go_wp2
      go_ret
      exact ⟨left - t.size, by rw [HFF.out.1]; rfl, HFF.out.2, by omega, by omega, fun _ => rfl, HOK.out⟩
set_option maxRecDepth 100000 in
theorem cvalid_any (P : Nat → Prop) (t : Con) (w : World) (v : Value) (hP : ∀ b, P b → b < w.heap.size) (ht : ConV w P t v) :
    Calls Tryz.prog 52 #[v] w fun e w' => e = .returned (.bool (Con.validB t)) ∧ Below w.heap.size w w' := by
  have HT := Lib.hid (fun W (hW : Below w.heap.size w W) => ht.keep (Same.of_below hW hP))
  obtain ⟨ka, kn, kc, na, nn, nc, la, ln, lc, rfl, -, -, -⟩ := ht.shape
  obtain ⟨hbx, hbn, hb⟩ := twoN_new w 28 3 #[.int .i64 t.op, .int .i64 t.n, .string t.s, .slice ka kn kc, .slice na nn nc, .slice la ln lc] #[.int .i64 20000]
  obtain ⟨-, hbn0, -⟩ := twoN_new w 28 3 #[.int .i64 t.op, .int .i64 t.n, .string t.s, .slice ka kn kc, .slice na nn nc, .slice la ln lc] #[.int .i64 0]
  have fz := hbn0.thaw 0
  have HC := Lib.hid (isWell_any P (w.heap.size + 1) t 20000 400 w.heap.size 0 _ _ (fun q hq => ⟨Nat.lt_of_lt_of_le (hP q hq) hb.size, by have := hP q hq; omega⟩) hbx.lt (by omega) hbn (HT.out _ hb) ⟨_, _, _, _, _, _, rfl, hbx.cell 0 _ rfl, hbx.cell 1 _ rfl, hbx.cell 2 _ rfl, hbx.cell 3 _ rfl, hbx.cell 4 _ rfl, hbx.cell 5 _ rfl⟩ (by omega) (by omega) (by omega) (by omega))
  have HB := Lib.hid hb
  rw [← fwB_valid]
  clear ht hb hbx hbn hbn0
  go_enter Tryz.func52, Tryz.ntmps52
  go_wp2_with fail
  refine HC.out.mono ?_
  rintro e w3 ⟨c, rfl, -, -, -, -, ho⟩
  have HO := Lib.hid (HB.out.trans (ho.to (Nat.le_succ _) HB.out.size))
  clear ho
  go_wp2
  go_ret
  exact ⟨rfl, HO.out⟩
end Go.Proofs.YtpkgiemdnfbopaaGreat
namespace Go.Proofs.YtpkgiemdnfbopaaGreat
open Go Go.RowKit
open Pl (K Con KR KS kof kofs ownK inK)
set_option linter.unusedSimpArgs false
set_option linter.unusedVariables false

/-- an answer that is a kind, or none and a code -/
def KrP (P : Nat → Prop) (r : KR) (w : World) (e : Ending) (w' : World) : Prop := (∃ a n c, e = .returned (.tuple #[.agg #[.slice a n c], .int .i64 r.er]) ∧ KidV w' (Ext P w w') r.kd (.slice a n c)) ∧ Below w.heap.size w w'
/-- the blocks P and new ones, but for g -/
def Ext1 (P : Nat → Prop) (w W : World) (g q : Nat) : Prop := (P q ∨ (w.heap.size ≤ q ∧ q < W.heap.size)) ∧ q ≠ g
theorem krp_end {P : Nat → Prop} {w W : World} {g : Nat} {r r' : KR} {e : Int} {a : Option Addr} {n c : Nat} (hv : r = r') (hg : w.heap.size ≤ g) (hb : Below w.heap.size w W) (h : r'.er = e ∧ KidV W (Ext1 P w W g) r'.kd (.slice a n c)) :
    KrP P r w (.returned (.tuple #[.agg #[.slice a n c], .int .i64 e])) (W.setCell ⟨g, 0, none⟩ (.slice a n c)) := by
  subst hv
  refine ⟨⟨a, n, c, by rw [h.1], (h.2.keep (Same.set (w := W) ⟨g, 0, none⟩ (.slice a n c) (fun q hq => hq.2))).mono (fun q hq => ?_)⟩, below_set hb hg _⟩
  rcases hq.1 with hq | hq
  · exact .inl hq
  · exact .inr ⟨hq.1, by rw [size_set]; exact hq.2⟩
theorem krp_zero {P : Nat → Prop} {w W : World} {r : KR} {e : Int} {p : List Nat} {e' : Int} (hv : r = .bad e p ∨ (r = .ok (.mk []) ∧ e = 0)) (he : e = e') (hb : Below w.heap.size w W) :
    KrP P r w (.returned (.tuple #[.agg #[.slice none 0 0], .int .i64 e'])) W := by
  subst he
  rcases hv with rfl | ⟨rfl, rfl⟩
  · exact ⟨⟨none, 0, 0, rfl, kidV_none _ _⟩, hb⟩
  · exact ⟨⟨none, 0, 0, rfl, kidV_none _ _⟩, hb⟩
theorem krp_bad {P : Nat → Prop} {w W : World} {r : KR} {e : Int} {p : List Nat} (hv : r = .bad e p) (hb : Below w.heap.size w W) : KrP P r w (.returned (.tuple #[.agg #[.slice none 0 0], .int .i64 e])) W := krp_zero (.inl hv) rfl hb
theorem krp_star {P : Nat → Prop} {w W : World} {r : KR} (hv : r = .ok (.mk [])) (hb : Below w.heap.size w W) : KrP P r w (.returned (.tuple #[.agg #[.slice none 0 0], .int .i64 0])) W := krp_zero (p := []) (.inr ⟨hv, rfl⟩) rfl hb
theorem kstar_any (P : Nat → Prop) (t : K) (w : World) (v : Value) (ht : KV w P t v) :
    Calls Tryz.prog 196 #[v] w fun e w' => e = .returned (.bool (t.l.length == 0)) ∧ Below w.heap.size w w' := by
  obtain ⟨a, c, rfl⟩ := ht.form
  clear ht
  generalize t.l.length = n
  obtain ⟨hbx, hb⟩ := box_new w 24 (.slice a n c)
  have c0 := hbx.cell 0 (.slice a n c) rfl
  have HB := Lib.hid hb
  clear hbx hb
  have hn : ((n : Int) == 0) = (n == 0) := by cases n <;> rfl
  generalize (n == 0) = r at hn ⊢
  go_enter Tryz.func196, Tryz.ntmps196
  go_wp2
  go_ret
  exact ⟨by first | rfl | (rw [hn]; rfl), HB.out⟩
set_option maxRecDepth 100000 in
theorem recursive_any (P : Nat → Prop) (k u : K) (w : World) (v x : Value) (hP : ∀ b, P b → b < w.heap.size) (hk : KV w P k v) (hu : KV w P u x) (h1 : K.valid k = true) (h2 : K.valid u = true) :
    Calls Tryz.prog 167 #[v, x] w (KrP P (if K.eqv k u then .ok k else .bad 11 []) w) := by
  have HQ := Lib.hid (fun W (hW : Below w.heap.size w W) => equal_any_k8 P P k u W v x (fun b h => Nat.lt_of_lt_of_le (hP b h) hW.size) (fun b h => Nat.lt_of_lt_of_le (hP b h) hW.size) (hk.below hP hW) (hu.below hP hW))
  rw [h1, h2, Bool.true_and, Bool.true_and] at HQ
  obtain ⟨a, c, rfl⟩ := hk.form
  obtain ⟨a2, c2, rfl⟩ := hu.form
  have HKK := Lib.hid hk.kid
  have HP := Lib.hid hP
  generalize K.eqv k u = r at *
  obtain ⟨R, hV⟩ : ∃ R : KR, R = if r then .ok k else .bad 11 [] := ⟨_, rfl⟩
  rw [← hV]
  have HV := Lib.hid hV
  clear hV
  generalize k.l.length = n at *
  generalize u.l.length = n2 at *
  obtain ⟨hbx, hbx2, hbx3, hb⟩ := three_new8 w 24 24 24 (.slice a n c) (.slice a2 n2 c2) (.slice none 0 0)
  have HB := Lib.hid hb
  have H1 := Lib.hid hbx
  have HR := Lib.hid hbx3
  have HG := Lib.hid (show w.heap.size ≤ w.heap.size + 1 + 1 from by omega)
  have e1 := hbx.cell 0 (.slice a n c) rfl
  have e2 := hbx2.cell 0 (.slice a2 n2 c2) rfl
  clear hk hu hP hbx hbx2 hbx3 hb h1 h2
  go_enter Tryz.func167, Tryz.ntmps167
  go_wp2_with fail
  clear e1 e2
  generalize ((w.alloc (.cells #[.slice a n c] 24)).alloc (.cells #[.slice a2 n2 c2] 24)).alloc (.cells #[.slice none 0 0] 24) = w2 at *
  refine (HQ.out _ HB.out).mono ?_
  rintro e w3 ⟨rfl, hb3⟩
  replace HB := Lib.hid (belowStep hb3 HB.out)
  replace H1 := Lib.hid (H1.out.of_eq (hb3.block _ H1.out.lt))
  replace HR := Lib.hid (HR.out.of_eq (hb3.block _ HR.out.lt))
  clear hb3 HQ
  cases r
  · replace HV := Lib.hid (show R = .bad 11 [] from HV.out)
    have hr9 := HR.out
    have c9 := hr9.cell 0 (.slice none 0 0) rfl
    have f9 := hr9.thaw 0
    have HE1 := Lib.hid (blk_one (y := .slice none 0 0) hr9)
    have HE := Lib.hid (krp_bad (P := P) HV.out (below_set HB.out HG.out (.slice none 0 0)))
    have HE0 := Lib.hid (krp_bad (P := P) HV.out HB.out)
    clear hr9
    go_wp2
    have d9 := HE1.out.cell 0 (.slice none 0 0) rfl
    refine bodyPost_ret (v := .tuple #[.agg #[.slice none 0 0], .int .i64 11]) (by first | (simp [results, Tryz.results167, go_sem, d9]; done) | (simp [results, Tryz.results167, go_sem, c9]; done)) rfl ?_
    first | exact HE.out | exact HE0.out
  · replace HV := Lib.hid (show R = .ok k from HV.out)
    have e1 := H1.out.cell 0 (.slice a n c) rfl
    have HX := Lib.hid ((HKK.out.keep (Same.of_below HB.out HP.out)).mono (fun q hq => (show Ext1 P w w3 (w.heap.size + 1 + 1) q from ⟨.inl hq, by have := HP.out q hq; omega⟩)))
    have hr9 := HR.out
    have c9 := hr9.cell 0 (.slice none 0 0) rfl
    have f9 := hr9.thaw 0
    have HE1 := Lib.hid (blk_one (y := .slice a n c) hr9)
    have HE := Lib.hid (krp_end (P := P) HV.out HG.out HB.out ⟨rfl, HX.out⟩)
    clear hr9
    go_wp2
    have d9 := HE1.out.cell 0 (.slice a n c) rfl
    refine bodyPost_ret (v := .tuple #[.agg #[.slice a n c], .int .i64 0]) (by simp [results, Tryz.results167, go_sem, d9]) rfl ?_
    exact HE.out
set_option maxRecDepth 100000 in
theorem function_any (P : Nat → Prop) (k u : K) (w : World) (v x : Value) (hP : ∀ b, P b → b < w.heap.size) (hk : KV w P k v) (hu : KV w P u x) :
    Calls Tryz.prog 165 #[v, x] w (KrP P (if K.valid (.mk [k, u]) then .ok (.mk [k, u]) else .bad 6 []) w) := by
  obtain ⟨a, c, rfl⟩ := hk.form
  obtain ⟨a2, c2, rfl⟩ := hu.form
  generalize k.l.length = n at *
  generalize u.l.length = n2 at *
  obtain ⟨hbx, hbx2, hbx3, hb⟩ := three_new8 w 24 24 24 (.slice a n c) (.slice a2 n2 c2) (.slice none 0 0)
  have e3 : (((w.alloc (.cells #[.slice a n c] 24)).alloc (.cells #[.slice a2 n2 c2] 24)).alloc (.cells #[.slice none 0 0] 24)).heap.size = w.heap.size + 3 := by rw [size_alloc, size_alloc, size_alloc]
  have hpk := pair_kids (w := ((w.alloc (.cells #[.slice a n c] 24)).alloc (.cells #[.slice a2 n2 c2] 24)).alloc (.cells #[.slice none 0 0] 24)) (P := P) (fun b h => Nat.lt_of_lt_of_le (hP b h) hb.size) (hk.kid.keep (Same.of_below hb hP)) (hu.kid.keep (Same.of_below hb hP))
  rw [e3] at hpk
  obtain ⟨hnb, hnb2⟩ := boxN_new ((((w.alloc (.cells #[.slice a n c] 24)).alloc (.cells #[.slice a2 n2 c2] 24)).alloc (.cells #[.slice none 0 0] 24)).alloc (.cells #[.slice a n c, .slice a2 n2 c2] 24)) 24 #[.slice (some ⟨w.heap.size + 3, 0, none⟩) 2 2]
  have e4 : ((((w.alloc (.cells #[.slice a n c] 24)).alloc (.cells #[.slice a2 n2 c2] 24)).alloc (.cells #[.slice none 0 0] 24)).alloc (.cells #[.slice a n c, .slice a2 n2 c2] 24)).heap.size = w.heap.size + 4 := by rw [size_alloc, e3]
  rw [e4] at hnb
  have hbb := belowStep hnb2 (below_new (o := .cells #[.slice a n c, .slice a2 n2 c2] 24) hb)
  have HKK := Lib.hid ((hpk.keep (Same.of_below hnb2 (fun q hq => by
    rcases hq with hq | hq
    · exact Nat.lt_of_lt_of_le (hP q hq) (below_new (o := .cells #[.slice a n c, .slice a2 n2 c2] 24) hb).size
    · exact hq.2))).mono (fun q hq => (show P q ∨ q = w.heap.size + 3 from by
      rcases hq with hq | hq
      · exact .inl hq
      · have h1 := hq.1
        have h2 := hq.2
        rw [e3] at h1
        rw [e4] at h2
        exact .inr (by omega))))
  have HP := Lib.hid hP
  have HB := Lib.hid hbb
  have H1 := Lib.hid hnb
  have HR := Lib.hid ((hbx3.alloc (.cells #[.slice a n c, .slice a2 n2 c2] 24)).alloc (.cells #[.slice (some ⟨w.heap.size + 3, 0, none⟩) 2 2] 24))
  have HG := Lib.hid (show w.heap.size ≤ w.heap.size + 1 + 1 from by omega)
  have HSZ := Lib.hid hnb.lt
  have e1 := hbx.cell 0 (.slice a n c) rfl
  have e2 := hbx2.cell 0 (.slice a2 n2 c2) rfl
  have e5 := hnb.cell 0 (.slice (some ⟨w.heap.size + 3, 0, none⟩) 2 2) rfl
  obtain ⟨R, hV⟩ : ∃ R : KR, R = if K.valid (.mk [k, u]) then .ok (.mk [k, u]) else .bad 6 [] := ⟨_, rfl⟩
  rw [← hV]
  have HV := Lib.hid hV
  have HQ := Lib.hid (fun W v hP' hk' => valid_any (fun q => P q ∨ q = w.heap.size + 3) (.mk [k, u]) W v hP' hk')
  generalize K.valid (.mk [k, u]) = r at *
  clear hk hu hP hbx hbx2 hbx3 hb hV hpk hnb hnb2 hbb
  go_enter Tryz.func165, Tryz.ntmps165
  go_wp2_with fail
  clear e1 e2 e3 e4 e5
  generalize (((((w.alloc (.cells #[.slice a n c] 24)).alloc (.cells #[.slice a2 n2 c2] 24)).alloc (.cells #[.slice none 0 0] 24)).alloc (.cells #[.slice a n c, .slice a2 n2 c2] 24)).alloc (.cells #[.slice (some ⟨w.heap.size + 3, 0, none⟩) 2 2] 24)) = w2 at *
  have HLOW := Lib.hid (show ∀ b, (P b ∨ b = w.heap.size + 3) → b < w2.heap.size from fun b hb => by
    rcases hb with hb | hb
    · exact Nat.lt_of_lt_of_le (HP.out b hb) HB.out.size
    · have := HSZ.out; omega)
  refine (HQ.out w2 _ HLOW.out ⟨_, rfl, HKK.out⟩).mono ?_
  rintro e w3 ⟨rfl, hb3⟩
  replace HKK := Lib.hid (HKK.out.keep (Same.of_below hb3 HLOW.out))
  replace HB := Lib.hid (belowStep hb3 HB.out)
  replace H1 := Lib.hid (H1.out.of_eq (hb3.block _ H1.out.lt))
  replace HR := Lib.hid (HR.out.of_eq (hb3.block _ HR.out.lt))
  replace HSZ := Lib.hid (H1.out.lt)
  clear hb3 HQ HLOW
  cases r
  · replace HV := Lib.hid (show R = .bad 6 [] from HV.out)
    have hr9 := HR.out
    have c9 := hr9.cell 0 (.slice none 0 0) rfl
    have f9 := hr9.thaw 0
    have HE1 := Lib.hid (blk_one (y := .slice none 0 0) hr9)
    have HE := Lib.hid (krp_bad (P := P) HV.out (below_set HB.out HG.out (.slice none 0 0)))
    have HE0 := Lib.hid (krp_bad (P := P) HV.out HB.out)
    clear hr9
    go_wp2
    have d9 := HE1.out.cell 0 (.slice none 0 0) rfl
    refine bodyPost_ret (v := .tuple #[.agg #[.slice none 0 0], .int .i64 6]) (by first | (simp [results, Tryz.results165, go_sem, d9]; done) | (simp [results, Tryz.results165, go_sem, c9]; done)) rfl ?_
    first | exact HE.out | exact HE0.out
  · replace HV := Lib.hid (show R = .ok (.mk [k, u]) from HV.out)
    have e1 := H1.out.cell 0 (.slice (some ⟨w.heap.size + 3, 0, none⟩) 2 2) rfl
    have HX := Lib.hid (HKK.out.mono (fun q hq => (show Ext1 P w w3 (w.heap.size + 1 + 1) q from by
      have := HSZ.out
      rcases hq with hq | hq
      · exact ⟨.inl hq, by have := HP.out q hq; omega⟩
      · exact ⟨.inr ⟨by omega, by omega⟩, by omega⟩)))
    have hr9 := HR.out
    have c9 := hr9.cell 0 (.slice none 0 0) rfl
    have f9 := hr9.thaw 0
    have HE1 := Lib.hid (blk_one (y := .slice (some ⟨w.heap.size + 3, 0, none⟩) 2 2) hr9)
    have HE := Lib.hid (krp_end (P := P) HV.out HG.out HB.out ⟨rfl, HX.out⟩)
    clear hr9
    go_wp2
    have d9 := HE1.out.cell 0 (.slice (some ⟨w.heap.size + 3, 0, none⟩) 2 2) rfl
    refine bodyPost_ret (v := .tuple #[.agg #[.slice (some ⟨w.heap.size + 3, 0, none⟩) 2 2], .int .i64 0]) (by simp [results, Tryz.results165, go_sem, d9]) rfl ?_
    exact HE.out
theorem all_stepG {α : Type} (f : α → Bool) (l : List α) (k : Nat) (hk : k < l.length) : (l.drop k).all f = (f l[k] && (l.drop (k + 1)).all f) := by
  rw [List.drop_eq_getElem_cons hk, List.all_cons]
set_option maxRecDepth 100000 in
set_option maxHeartbeats 1000000 in
theorem typeOf_any (P : Nat → Prop) (l : List K) (w : World) (v : Value) (hP : ∀ b, P b → b < w.heap.size) (ht : KSl w P v l) :
    Calls Tryz.prog 168 #[v] w (KrP P (if l.all (fun k => k.l.length == 0) then .ok (.mk []) else .bad 11 []) w) := by
  obtain ⟨a, c, rfl, hlc, hcm, hka⟩ := ht.each
  clear ht
  have HP := Lib.hid hP
  have HKA := Lib.hid hka
  obtain ⟨r, hr⟩ : ∃ r, r = l.all (fun k => k.l.length == 0) := ⟨_, rfl⟩
  rw [← hr]
  have HRR := Lib.hid hr
  obtain ⟨R, hV⟩ : ∃ R : KR, R = if r then .ok (.mk []) else .bad 11 [] := ⟨_, rfl⟩
  rw [← hV]
  have HV0 := Lib.hid hV
  obtain ⟨n, hn⟩ : ∃ n, n = l.length := ⟨_, rfl⟩
  have HN := Lib.hid hn
  rw [← hn] at hlc ⊢
  have hn63 : n ≤ 9223372036854775807 := by unfold maxLen at hcm; omega
  obtain ⟨hbx, hb⟩ := box_new w 24 (.slice none 0 0)
  have HB0 := Lib.hid hb
  have HR0 := Lib.hid hbx
  have HG := Lib.hid (Nat.le_refl w.heap.size)
  clear hka hn hcm hlc hr hV hP hbx hb
  go_enter Tryz.func168, Tryz.ntmps168
  go_wp2_with fail
  generalize w.alloc (.cells #[.slice none 0 0] 24) = w2 at *
  go_loopg [8] (n + 1) (fun g i wr => ∃ k : Nat, k ≤ n ∧ i = .int .i64 k ∧ g = n + 1 - k ∧ r = (l.drop k).all (fun k => k.l.length == 0) ∧ Below w2.heap.size w2 wr)
  case atStart => exact ⟨0, by omega, rfl, by omega, by rw [List.drop_zero]; exact HRR.out, Below.refl _ _⟩
  case round =>
    obtain ⟨k, hk, rfl, hg, hrk, hbw⟩ := hrel
    have HBW := Lib.hid (belowStep hbw HB0.out)
    have HBW2 := Lib.hid hbw
    have HR := Lib.hid (HR0.out.of_eq (hbw.block _ HR0.out.lt))
    have HK := Lib.hid hrk
    by_cases hlt : k < n
    · have q5 : decide ((k : Int) < (n : Int)) = true := decide_eq_true (by omega)
      have hkl : k < l.length := by rw [← HN.out]; exact hlt
      obtain ⟨b, off, x, e, hPb, hx, hkx⟩ := HKA.out k hkl
      subst e
      obtain ⟨a7, c7, rfl⟩ := hkx.form
      have f0 := (HBW.out.cell (p := ⟨b, off + k, none⟩) (HP.out b hPb)).trans hx
      obtain ⟨hbx, hb⟩ := boxN_new wr 24 #[.slice a7 l[k].l.length c7]
      have g0 := hbx.cell 0 (.slice a7 l[k].l.length c7) rfl
      have HC := Lib.hid (kstar_any P l[k] (wr.alloc (.cells #[.slice a7 l[k].l.length c7] 24)) (.agg #[.slice a7 l[k].l.length c7]) ⟨_, rfl, hkx.keep (Same.of_below (belowStep hb HBW.out) HP.out)⟩)
      have HST := Lib.hid (hrk.trans (all_stepG (fun k => k.l.length == 0) l k hkl))
      have HBN := Lib.hid (belowStep hb HBW2.out)
      replace HR := Lib.hid (HR.out.of_eq (hb.block _ HR.out.lt))
      replace HBW := Lib.hid (belowStep hb HBW.out)
      clear hrk hbw hx hkx hPb hbx hb HK HBW2

      generalize (l[k].l.length == 0) = z at *
      generalize l[k].l.length = n7 at *
      go_wp2_with fail
      generalize wr.alloc (.cells #[.slice a7 n7 c7] 24) = w5 at *
      refine HC.out.mono ?_
      rintro e w3 ⟨rfl, hb3⟩
      replace HR := Lib.hid (HR.out.of_eq (hb3.block _ HR.out.lt))
      have HB := Lib.hid (belowStep hb3 HBW.out)
      replace HBN := Lib.hid (belowStep hb3 HBN.out)
      clear hb3 f0 g0 HC
      cases z
      · have HV := Lib.hid (show R = .bad 11 [] from by rw [HV0.out, show r = false from HST.out]; rfl)
        have hr9 := HR.out
        have c9 := hr9.cell 0 (.slice none 0 0) rfl
        have f9 := hr9.thaw 0
        have HE1 := Lib.hid (blk_one (y := .slice none 0 0) hr9)
        have HE := Lib.hid (krp_bad (P := P) HV.out (below_set HB.out HG.out (.slice none 0 0)))
        have HE0 := Lib.hid (krp_bad (P := P) HV.out HB.out)
        clear hr9
        go_wp2
        have d9 := HE1.out.cell 0 (.slice none 0 0) rfl
        refine bodyPost_ret (v := .tuple #[.agg #[.slice none 0 0], .int .i64 11]) (by first | (simp [results, Tryz.results168, go_sem, d9]; done) | (simp [results, Tryz.results168, go_sem, c9]; done)) rfl ?_
        first | exact HE.out | exact HE0.out
      · have HF := Lib.hid (show r = (l.drop (k + 1)).all (fun k => k.l.length == 0) from HST.out)
        go_wp2
        go_roundg (gk - 1)
        case measure => omega
        case rel => exact ⟨k + 1, by omega, by go_num, by omega, HF.out, HBN.out⟩
    · have q5 : decide ((k : Int) < (n : Int)) = false := decide_eq_false (by omega)
      have HV := Lib.hid (show R = .ok (.mk []) from by rw [HV0.out, show r = true from by rw [HK.out, List.drop_of_length_le (by rw [← HN.out]; omega)]; rfl]; rfl)
      clear hrk hbw HBW2
      go_wp2_with fail
      refine (star_any _).mono ?_
      rintro e w3 ⟨rfl, hb3⟩
      replace HR := Lib.hid (HR.out.of_eq (hb3.block _ HR.out.lt))
      have HB := Lib.hid (belowStep hb3 HBW.out)
      clear hb3 HBW
      have hr9 := HR.out
      have c9 := hr9.cell 0 (.slice none 0 0) rfl
      have f9 := hr9.thaw 0
      have HE1 := Lib.hid (blk_one (y := .slice none 0 0) hr9)
      have HE := Lib.hid (krp_star (P := P) HV.out (below_set HB.out HG.out (.slice none 0 0)))
      have HE0 := Lib.hid (krp_star (P := P) HV.out HB.out)
      clear hr9
      go_wp2
      have d9 := HE1.out.cell 0 (.slice none 0 0) rfl
      refine bodyPost_ret (v := .tuple #[.agg #[.slice none 0 0], .int .i64 0]) (by first | (simp [results, Tryz.results168, go_sem, d9]; done) | (simp [results, Tryz.results168, go_sem, c9]; done)) rfl ?_
      first | exact HE.out | exact HE0.out
end Go.Proofs.YtpkgiemdnfbopaaGreat
namespace Go.Proofs.YtpkgiemdnfbopaaGreat
open Go Go.RowKit
open Pl (K Con KR KS kof kofs ownK inK appK)
set_option linter.unusedSimpArgs false
set_option linter.unusedVariables false

/-- the kind of a variable -/
def varK (r : List K) (n : Int) : KR := match r[n.toNat]? with | some k => .ok k | none => .bad 10 []
theorem varK_in (g : List K) (i : Int) (h0 : 0 ≤ i) (h1 : i < g.length) (j : Nat) (hj : (g.length : Int) - 1 - i = j) (hjl : j < g.length) : varK g.reverse i = .ok g[j] := by
  unfold varK
  have e : g.reverse[i.toNat]? = some g[j] := by
    rw [List.getElem?_reverse (by omega), show g.length - 1 - i.toNat = j from by omega, List.getElem?_eq_getElem hjl]
  rw [e]
theorem varK_out (g : List K) (i : Int) (h1 : (g.length : Int) ≤ i) : varK g.reverse i = .bad 10 [] := by
  unfold varK
  have e : g.reverse[i.toNat]? = none := by
    rw [List.getElem?_eq_none]
    rw [List.length_reverse]
    omega
  rw [e]
set_option maxRecDepth 100000 in
theorem variable_any (P : Nat → Prop) (g : List K) (i : Int) (w : World) (v : Value) (hP : ∀ b, P b → b < w.heap.size) (hg : KSl w P v g) (h0 : 0 ≤ i) (h1 : i ≤ 1000000) :
    Calls Tryz.prog 164 #[v, .int .i64 i] w (KrP P (varK g.reverse i) w) := by
  obtain ⟨a, c, rfl, hlc, hcm, hka⟩ := hg.each
  obtain ⟨R, hV⟩ : ∃ R : KR, R = varK g.reverse i := ⟨_, rfl⟩
  rw [← hV]
  have HP := Lib.hid hP
  have hn63 : g.length ≤ 9223372036854775807 := by unfold maxLen at hcm; omega
  obtain ⟨n, hn⟩ : ∃ n, n = g.length := ⟨_, rfl⟩
  have HIN := Lib.hid (show i < (n : Int) → ∀ j : Nat, (n : Int) - 1 - i = j → ∀ hjl : j < g.length, R = .ok g[j] from by
    intro a1 j a2 a3
    rw [hV]
    exact varK_in g i h0 (by omega) j (by omega) a3)
  have HOUT := Lib.hid (show (n : Int) ≤ i → R = .bad 10 [] from fun h => hV.trans (varK_out g i (by omega)))
  rw [← hn] at hn63 hlc ⊢
  have HN := Lib.hid hn
  obtain ⟨hbx, hb⟩ := box_new w 24 (.slice none 0 0)
  have HB := Lib.hid hb
  have HR := Lib.hid hbx
  have HG := Lib.hid (Nat.le_refl w.heap.size)
  have HKA := Lib.hid hka
  clear hb hbx hg hP hka hn hV
  go_enter Tryz.func164, Tryz.ntmps164
  go_upto_region 1 with fail
  generalize w.alloc (.cells #[.slice none 0 0] 24) = w2 at *
  by_cases hc : (n : Int) ≤ i
  · have q1 : decide ((n : Int) ≤ i) = true := decide_eq_true hc
    have HV := Lib.hid (HOUT.out hc)
    have hr9 := HR.out
    have c9 := hr9.cell 0 (.slice none 0 0) rfl
    have f9 := hr9.thaw 0
    have HE1 := Lib.hid (blk_one (y := .slice none 0 0) hr9)
    have HE := Lib.hid (krp_bad (P := P) HV.out (below_set HB.out HG.out (.slice none 0 0)))
    have HE0 := Lib.hid (krp_bad (P := P) HV.out HB.out)
    clear hr9
    go_wp2
    have d9 := HE1.out.cell 0 (.slice none 0 0) rfl
    refine bodyPost_ret (v := .tuple #[.agg #[.slice none 0 0], .int .i64 10]) (by first | (simp [results, Tryz.results164, go_sem, d9]; done) | (simp [results, Tryz.results164, go_sem, c9]; done)) rfl ?_
    first | exact HE.out | exact HE0.out
  · have q1 : decide ((n : Int) ≤ i) = false := decide_eq_false hc
    obtain ⟨j, hj⟩ : ∃ j : Nat, (n : Int) - 1 - i = j := ⟨((n : Int) - 1 - i).toNat, by omega⟩
    have hjn : j < n := by omega
    have hjl : j < g.length := by rw [← HN.out]; exact hjn
    have HV := Lib.hid (HIN.out (by omega) j hj hjl)
    obtain ⟨b, off, x, e, hPb, hx, hkx⟩ := HKA.out j hjl
    subst e
    obtain ⟨a7, c7, rfl⟩ := hkx.form
    have f0 := (HB.out.cell (p := ⟨b, off + j, none⟩) (HP.out b hPb)).trans hx
    have w1 : wrap64 ((n : Int) - 1) = (n : Int) - 1 := by rw [wrap64]; omega
    have w2' : wrap64 ((n : Int) - 1 - i) = (j : Int) := by rw [wrap64, hj]; omega
    have HX := Lib.hid ((hkx.keep (Same.of_below HB.out HP.out)).mono (fun q hq => (show Ext1 P w w2 w.heap.size q from ⟨.inl hq, by have := HP.out q hq; omega⟩)))
    generalize g[j].l.length = n7 at *
    clear hkx hx hPb HIN HOUT HKA
    have hr9 := HR.out
    have c9 := hr9.cell 0 (.slice none 0 0) rfl
    have f9 := hr9.thaw 0
    have HE1 := Lib.hid (blk_one (y := .slice a7 n7 c7) hr9)
    have HE := Lib.hid (krp_end (P := P) HV.out HG.out HB.out ⟨rfl, HX.out⟩)
    clear hr9
    go_wp2
    have d9 := HE1.out.cell 0 (.slice a7 n7 c7) rfl
    refine bodyPost_ret (v := .tuple #[.agg #[.slice a7 n7 c7], .int .i64 0]) (by simp [results, Tryz.results164, go_sem, d9]) rfl ?_
    exact HE.out
theorem appK_star (a : K) : appK (.mk []) a = .bad 11 [] := rfl
theorem appK_two (x y a : K) : appK (.mk [x, y]) a = if K.eqv x a then .ok y else .bad 11 [] := rfl
set_option maxRecDepth 100000 in
set_option maxHeartbeats 2000000 in
theorem application_any (P : Nat → Prop) (f a : K) (w : World) (v x : Value) (hP : ∀ b, P b → b < w.heap.size) (hf : KV w P f v) (ha : KV w P a x) (h1 : K.valid f = true) (h2 : K.valid a = true) :
    Calls Tryz.prog 166 #[v, x] w (KrP P (appK f a) w) := by
  obtain ⟨a1, c1, rfl⟩ := hf.form
  obtain ⟨a2, c2, rfl⟩ := ha.form
  have hkf := hf.kid
  have hka := ha.kid
  have HIS := Lib.hid (fun W (hW : Below w.heap.size w W) => kstar_any P f W _ (hf.below hP hW))
  have HOK := Lib.hid (((K.valid_iff f).1 h1).1)
  clear hf ha
  generalize hn1 : f.l.length = n1 at *
  obtain ⟨R, hV⟩ : ∃ R : KR, R = appK f a := ⟨_, rfl⟩
  rw [← hV]
  have HA := Lib.hid (hka.form)
  generalize hn2 : a.l.length = n2 at *
  obtain ⟨hb1, hb2, hb3, hb⟩ := three_new8 w 24 24 24 (.slice a1 n1 c1) (.slice a2 n2 c2) (.slice none 0 0)
  have HP := Lib.hid hP
  have HKF := Lib.hid hkf
  have HKA := Lib.hid hka
  have HB := Lib.hid hb
  have H1 := Lib.hid hb1
  have H2 := Lib.hid hb2
  have HR := Lib.hid hb3
  have HG := Lib.hid (show w.heap.size ≤ w.heap.size + 1 + 1 from by omega)
  have HN1 := Lib.hid hn1
  clear hb1 hb2 hb3 hb hkf hka hP hn1 hn2 HA
  go_enter Tryz.func166, Tryz.ntmps166
  go_upto_region 1 with fail
  generalize ((w.alloc (.cells #[.slice a1 n1 c1] 24)).alloc (.cells #[.slice a2 n2 c2] 24)).alloc (.cells #[.slice none 0 0] 24) = w4 at *
  have HD0 := Lib.hid (Below.refl w4.heap.size w4).drew
  have HU := Lib.hid (fun W (hW : Below w4.heap.size w4 W) => belowStep hW HB.out)
  rcases K.ok_cases HOK.out with rfl | ⟨x, y, rfl⟩
  · obtain rfl : 0 = n1 := HN1.out
    have HV := Lib.hid (show R = .bad 11 [] from hV)
    have HIS0 := Lib.hid (fun W (hW : Below w.heap.size w W) => (show Calls Tryz.prog 196 #[.agg #[.slice a1 0 c1]] W fun e w' => e = .returned (.bool true) ∧ Below W.heap.size W w' from HIS.out W hW))
    have HSS := Lib.hid (fun W (hW : Below w4.heap.size w4 W) => (show Below w.heap.size w W ∧ W.cell? ⟨w.heap.size, 0, none⟩ = some (.slice a1 0 c1) ∧ W.cell? ⟨w.heap.size + 1, 0, none⟩ = some (.slice a2 n2 c2) from ⟨HU.out W hW, (H1.out.of_eq (hW.block _ H1.out.lt)).cell 0 _ rfl, (H2.out.of_eq (hW.block _ H2.out.lt)).cell 0 _ rfl⟩))
    refine wp_region_noPanic ?_
    refine wp_region_held_drew (S := (fun W => Below w.heap.size w W ∧ W.cell? ⟨w.heap.size, 0, none⟩ = some (.slice a1 0 c1) ∧ W.cell? ⟨w.heap.size + 1, 0, none⟩ = some (.slice a2 n2 c2))) (by kernel_rfl) (HSS.out _ HD0.out) (fun hHeld => ?_)
    refine wpAnyH_take (i := 0) (v := .agg #[.slice a1 0 c1]) rfl (by kernel_rfl) (by kernel_rfl) (by kernel_rfl) (fun _ _ _ h => h) (Or.inl ⟨by rfl, ?_⟩) (by assumption) ?_
    · intro w hSw
      try dsimp only at hSw
      go_simp
    change wpAnyH _ _ _ _ _ _ _ (Act.put _ (some 6) _) _
    simp only [Act.put, List.setIfInBounds_toArray, List.set_cons_zero, List.set_cons_succ]
    refine wpAnyH_ready (rs := [1]) (by kernel_rfl) (by simp) ?_
    refine AllReadyH.cons rfl (fun K hK => ?_) AllReadyH.nil
    go_simp
    go_at_call 196
    refine (HIS0.out _ (HU.out _ HD0.out)).mono ?_
    rintro e wn ⟨rfl, hbn⟩
    have hbn2 := belowStep (a := w4) hbn HD0.out
    refine hK.out _ _ (HSS.out _ hbn2) (fun hHeld2 => ?_)
    clear hK K hHeld
    try simp only [Act.put, List.setIfInBounds_toArray, List.set_cons_zero, List.set_cons_succ]
    refine wpAnyH_take (i := 2) (v := .bool true) rfl (by kernel_rfl) (by kernel_rfl) (by kernel_rfl) (fun _ _ _ h => h) (Or.inl ⟨by rfl, ?_⟩) (by assumption) ?_
    · intro w hSw
      try dsimp only at hSw
      go_simp
    change wpAnyH _ _ _ _ _ _ _ (Act.put _ (some 8) _) _
    simp only [Act.put, List.setIfInBounds_toArray, List.set_cons_zero, List.set_cons_succ]
    refine wpAnyH_take (i := 3) (v := undef) rfl (by kernel_rfl) (by kernel_rfl) (by kernel_rfl) (fun _ _ _ h => h) (Or.inr ⟨by rfl, rfl⟩) (by assumption) ?_
    change wpAnyH _ _ _ _ _ _ _ (Act.put _ (some 9) _) _
    simp only [Act.put, List.setIfInBounds_toArray, List.set_cons_zero, List.set_cons_succ]
    refine wpAnyH_take (i := 4) (v := undef) rfl (by kernel_rfl) (by kernel_rfl) (by kernel_rfl) (fun _ _ _ h => h) (Or.inr ⟨by rfl, rfl⟩) (by assumption) ?_
    change wpAnyH _ _ _ _ _ _ _ (Act.put _ (some 10) _) _
    simp only [Act.put, List.setIfInBounds_toArray, List.set_cons_zero, List.set_cons_succ]
    refine wpAnyH_take (i := 5) (v := undef) rfl (by kernel_rfl) (by kernel_rfl) (by kernel_rfl) (fun _ _ _ h => h) (Or.inr ⟨by rfl, rfl⟩) (by assumption) ?_
    change wpAnyH _ _ _ _ _ _ _ (Act.put _ (some 11) _) _
    simp only [Act.put, List.setIfInBounds_toArray, List.set_cons_zero, List.set_cons_succ]
    refine wpAnyH_take (i := 6) (v := undef) rfl (by kernel_rfl) (by kernel_rfl) (by kernel_rfl) (fun _ _ _ h => h) (Or.inr ⟨by rfl, rfl⟩) (by assumption) ?_
    change wpAnyH _ _ _ _ _ _ _ (Act.put _ (some 12) _) _
    simp only [Act.put, List.setIfInBounds_toArray, List.set_cons_zero, List.set_cons_succ]
    refine wpAnyH_take (i := 7) (v := undef) rfl (by kernel_rfl) (by kernel_rfl) (by kernel_rfl) (fun _ _ _ h => h) (Or.inr ⟨by rfl, rfl⟩) (by assumption) ?_
    change wpAnyH _ _ _ _ _ _ _ (Act.put _ (some 13) _) _
    simp only [Act.put, List.setIfInBounds_toArray, List.set_cons_zero, List.set_cons_succ]
    refine wpAnyH_take (i := 8) (v := undef) rfl (by kernel_rfl) (by kernel_rfl) (by kernel_rfl) (fun _ _ _ h => h) (Or.inr ⟨by rfl, rfl⟩) (by assumption) ?_
    change wpAnyH _ _ _ _ _ _ _ (Act.put _ (some 14) _) _
    simp only [Act.put, List.setIfInBounds_toArray, List.set_cons_zero, List.set_cons_succ]
    refine wpAnyH_take (i := 9) (v := undef) rfl (by kernel_rfl) (by kernel_rfl) (by kernel_rfl) (fun _ _ _ h => h) (Or.inr ⟨by rfl, rfl⟩) (by assumption) ?_
    change wpAnyH _ _ _ _ _ _ _ (Act.put _ (some 15) _) _
    simp only [Act.put, List.setIfInBounds_toArray, List.set_cons_zero, List.set_cons_succ]
    refine wpAnyH_take (i := 10) (v := .bool true) rfl (by kernel_rfl) (by kernel_rfl) (by kernel_rfl) (fun _ _ _ h => h) (Or.inl ⟨by rfl, ?_⟩) (by assumption) ?_
    · intro w hSw
      try dsimp only at hSw
      go_simp
    change wpAnyH _ _ _ _ _ _ _ (Act.put _ (some 16) _) _
    simp only [Act.put, List.setIfInBounds_toArray, List.set_cons_zero, List.set_cons_succ]
    refine wpAnyH_done (by kernel_rfl) ?_ _
    refine NoPanic.normal ?_
    replace HR := Lib.hid (HR.out.of_eq (hbn2.block _ HR.out.lt))
    replace HB := Lib.hid (HU.out _ hbn2)
    have hr9 := HR.out
    have c9 := hr9.cell 0 (.slice none 0 0) rfl
    have f9 := hr9.thaw 0
    have HE1 := Lib.hid (blk_one (y := .slice none 0 0) hr9)
    have HE := Lib.hid (krp_bad (P := P) HV.out (below_set HB.out HG.out (.slice none 0 0)))
    have HE0 := Lib.hid (krp_bad (P := P) HV.out HB.out)
    clear hr9
    go_wp2
    have d9 := HE1.out.cell 0 (.slice none 0 0) rfl
    refine bodyPost_ret (v := .tuple #[.agg #[.slice none 0 0], .int .i64 11]) (by first | (simp [results, Tryz.results166, go_sem, d9]; done) | (simp [results, Tryz.results166, go_sem, c9]; done)) rfl ?_
    first | exact HE.out | exact HE0.out
  · obtain rfl : 2 = n1 := HN1.out
    obtain ⟨a5, c5, e5, -, -, hkk⟩ := KSl.each (show KSl w P (.slice a1 2 c1) [x, y] from HKF.out)
    injection e5 with e5 e9 e6
    subst e5 e6
    clear e9
    obtain ⟨b0, o0, rfl, hPb, hke⟩ := kids_each hkk (by simp)
    obtain ⟨x0, hx0, hkx⟩ := hke 0 (by simp)
    obtain ⟨y0, hy0, hky⟩ := hke 1 (by simp)
    have hkx : KidV w P x x0 := hkx
    have hky : KidV w P y y0 := hky
    rw [Nat.add_zero] at hx0
    obtain ⟨a7, c7, rfl⟩ := hkx.form
    obtain ⟨a8, c8, rfl⟩ := hky.form
    have hb0 := HP.out b0 hPb
    have HX0 := Lib.hid hx0
    have HY0 := Lib.hid hy0
    have hvx := (Pl.valid_two x y h1).1
    have HSM := Lib.hid (fun W (hW : Below w.heap.size w W) => equal_any_k8 P P x a W (.agg #[.slice a7 x.l.length c7]) (.agg #[.slice a2 n2 c2]) (fun b h => Nat.lt_of_lt_of_le (HP.out b h) hW.size) (fun b h => Nat.lt_of_lt_of_le (HP.out b h) hW.size) ⟨_, rfl, hkx.keep (Same.of_below hW HP.out)⟩ ⟨_, rfl, HKA.out.keep (Same.of_below hW HP.out)⟩)
    rw [hvx, h2, Bool.true_and, Bool.true_and] at HSM
    have HIS0 := Lib.hid (fun W (hW : Below w.heap.size w W) => (show Calls Tryz.prog 196 #[.agg #[.slice (some ⟨b0, o0, none⟩) 2 c1]] W fun e w' => e = .returned (.bool false) ∧ Below W.heap.size W w' from HIS.out W hW))
    have HV0 := Lib.hid (hV.trans (appK_two x y a))
    have HKY := Lib.hid hky
    generalize x.l.length = n7 at *
    generalize y.l.length = n8 at *
    generalize K.eqv x a = r at *
    clear HIS hkx hky hx0 hy0 hke hkk HKF HKA HOK HN1 hPb hV h1 h2 hvx
    have HSS := Lib.hid (fun W (hW : Below w4.heap.size w4 W) => (show Below w.heap.size w W ∧ W.cell? ⟨w.heap.size, 0, none⟩ = some (.slice (some ⟨b0, o0, none⟩) 2 c1) ∧ W.cell? ⟨w.heap.size + 1, 0, none⟩ = some (.slice a2 n2 c2) ∧ W.cell? ⟨b0, o0, none⟩ = some (.slice a7 n7 c7) from ⟨HU.out W hW, (H1.out.of_eq (hW.block _ H1.out.lt)).cell 0 _ rfl, (H2.out.of_eq (hW.block _ H2.out.lt)).cell 0 _ rfl, ((HU.out W hW).cell (p := ⟨b0, o0, none⟩) hb0).trans HX0.out⟩))
    cases r

    · have HV := Lib.hid (show R = .bad 11 [] from HV0.out)
      go_region_held3 (fun W => Below w.heap.size w W ∧ W.cell? ⟨w.heap.size, 0, none⟩ = some (.slice (some ⟨b0, o0, none⟩) 2 c1) ∧ W.cell? ⟨w.heap.size + 1, 0, none⟩ = some (.slice a2 n2 c2) ∧ W.cell? ⟨b0, o0, none⟩ = some (.slice a7 n7 c7))
        (first | exact HSS.out _ HD0.out | exact HSS.out _ (by assumption) | fail)
        (first
        | (go_at_call 196; (with_reducible refine (HIS0.out _ (HU.out _ (by first | assumption | exact HD0.out))).mono ?_); rintro e wn ⟨rfl, hbn⟩; have hbn2 := belowStep (a := w4) hbn (by first | assumption | exact HD0.out))
        | (go_at_call 54; (with_reducible refine (HSM.out _ (HU.out _ (by first | assumption | exact HD0.out))).mono ?_); rintro e wm ⟨rfl, hbm⟩; have hbm2 := belowStep (a := w4) hbm (by first | assumption | exact HD0.out))
        | fail)
      all_goals (
        replace HR := Lib.hid (HR.out.of_eq (hbm2.block _ HR.out.lt))
        replace HB := Lib.hid (HU.out _ hbm2)
        clear hbm hbm2 hbn hbn2 HU HD0 HSS
        have hr9 := HR.out
        have c9 := hr9.cell 0 (.slice none 0 0) rfl
        have f9 := hr9.thaw 0
        have HE1 := Lib.hid (blk_one (y := .slice none 0 0) hr9)
        have HE := Lib.hid (krp_bad (P := P) HV.out (below_set HB.out HG.out (.slice none 0 0)))
        have HE0 := Lib.hid (krp_bad (P := P) HV.out HB.out)
        clear hr9
        go_wp2
        have d9 := HE1.out.cell 0 (.slice none 0 0) rfl
        refine bodyPost_ret (v := .tuple #[.agg #[.slice none 0 0], .int .i64 11]) (by first | (simp [results, Tryz.results166, go_sem, d9]; done) | (simp [results, Tryz.results166, go_sem, c9]; done)) rfl ?_
        first | exact HE.out | exact HE0.out)
    · have HV := Lib.hid (show R = .ok y from HV0.out)
      go_region_held3 (fun W => Below w.heap.size w W ∧ W.cell? ⟨w.heap.size, 0, none⟩ = some (.slice (some ⟨b0, o0, none⟩) 2 c1) ∧ W.cell? ⟨w.heap.size + 1, 0, none⟩ = some (.slice a2 n2 c2) ∧ W.cell? ⟨b0, o0, none⟩ = some (.slice a7 n7 c7))
        (first | exact HSS.out _ HD0.out | exact HSS.out _ (by assumption) | fail)
        (first
        | (go_at_call 196; (with_reducible refine (HIS0.out _ (HU.out _ (by first | assumption | exact HD0.out))).mono ?_); rintro e wn ⟨rfl, hbn⟩; have hbn2 := belowStep (a := w4) hbn (by first | assumption | exact HD0.out))
        | (go_at_call 54; (with_reducible refine (HSM.out _ (HU.out _ (by first | assumption | exact HD0.out))).mono ?_); rintro e wm ⟨rfl, hbm⟩; have hbm2 := belowStep (a := w4) hbm (by first | assumption | exact HD0.out))
        | fail)
      all_goals (
        replace HB := Lib.hid (HU.out _ hbm2)
        replace H1 := Lib.hid (H1.out.of_eq (hbm2.block _ H1.out.lt))
        replace HR := Lib.hid (HR.out.of_eq (hbm2.block _ HR.out.lt))
        have HX := Lib.hid ((HKY.out.keep (Same.of_below HB.out HP.out)).mono (fun q hq => (show Ext1 P w wm (w.heap.size + 1 + 1) q from ⟨.inl hq, by have := HP.out q hq; omega⟩)))
        clear hbm hbm2 hbn hbn2 HU HD0 HSS
        have e1 := H1.out.cell 0 (.slice (some ⟨b0, o0, none⟩) 2 c1) rfl
        have e2 := (HB.out.cell (p := ⟨b0, o0 + 1, none⟩) hb0).trans HY0.out
        have hr9 := HR.out
        have c9 := hr9.cell 0 (.slice none 0 0) rfl
        have f9 := hr9.thaw 0
        have HE1 := Lib.hid (blk_one (y := .slice a8 n8 c8) hr9)
        have HE := Lib.hid (krp_end (P := P) HV.out HG.out HB.out ⟨rfl, HX.out⟩)
        clear hr9
        go_wp2
        have d9 := HE1.out.cell 0 (.slice a8 n8 c8) rfl
        refine bodyPost_ret (v := .tuple #[.agg #[.slice a8 n8 c8], .int .i64 0]) (by simp [results, Tryz.results166, go_sem, d9]) rfl ?_
        exact HE.out)

end Go.Proofs.YtpkgiemdnfbopaaGreat
