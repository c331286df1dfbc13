/-
  Walks and plain mathematics, several texts in one (Sn Da Db Dc).
-/
import Derived.Test.YtjedahcpkcgpeaaGreatDoorH8
import Derived.Deep.LoopGhost
import Derived.WalkSpells
import Derived.WalkLawsBesides
import Derived.Test.YtjedahcpkcgpeaaGreatDoorH6
import Derived.Deep.QuietTactic
import Derived.Laws.OwnMore
import Derived.Deep.AppendLies
/-
  Walks of layer 3: a visit of all nodes, whatever is called at each.
-/
namespace Go.Proofs.YtjedahcpkcgpeaaGreatDoor
open Go Go.RowKit
open Pl (Syn)
theorem Blk.of_eq {w w' : World} {g : Nat} {t : TypeId} {cs : Array Value} (h : Blk w g t cs) (he : w'.heap[g]? = w.heap[g]?) : Blk w' g t cs := he.trans h
theorem size_alloc (w : World) (o : Obj) : (w.alloc o).heap.size = w.heap.size + 1 := by simp
theorem SynV.form {w : World} {P : Nat → Prop} {t : Syn} {v : Value} (h : SynV w P t v) : ∃ na nn nc la ln lc, v = .agg #[.int .i64 t.op, .int .i64 t.n, .string t.s, .slice na nn nc, .slice la ln lc] := by
  rw [synV_iff] at h
  obtain ⟨_, nv, lv, rfl, ⟨na, nc, rfl, _⟩, ⟨la, lc, rfl, _⟩⟩ := h
  exact ⟨na, _, nc, la, _, lc, rfl⟩
def Fr (own own' : Nat → Prop) (w w' : World) : Prop :=
  w'.os = w.os ∧ w'.tape = w.tape ∧ w'.output = w.output ∧ w.heap.size ≤ w'.heap.size ∧ (∀ i, i < w.heap.size → ¬ own i → w'.heap[i]? = w.heap[i]?) ∧ ∀ i, own' i → own i ∨ w.heap.size ≤ i
theorem Fr.size {o o' : Nat → Prop} {w w' : World} (h : Fr o o' w w') : w.heap.size ≤ w'.heap.size := h.2.2.2.1
theorem Fr.block {o o' : Nat → Prop} {w w' : World} (h : Fr o o' w w') {i : Nat} (hi : i < w.heap.size) (hn : ¬ o i) : w'.heap[i]? = w.heap[i]? := h.2.2.2.2.1 i hi hn
theorem Fr.owned {o o' : Nat → Prop} {w w' : World} (h : Fr o o' w w') {i : Nat} (hi : o' i) : o i ∨ w.heap.size ≤ i := h.2.2.2.2.2 i hi
theorem Fr.refl (o : Nat → Prop) (w : World) : Fr o o w w := ⟨rfl, rfl, rfl, Nat.le_refl _, fun _ _ _ => rfl, fun _ h => .inl h⟩
theorem Fr.trans {o1 o2 o3 : Nat → Prop} {a b c : World} (h : Fr o1 o2 a b) (k : Fr o2 o3 b c) : Fr o1 o3 a c := by
  obtain ⟨h1, h2, h3, h4, h5, h6⟩ := h
  obtain ⟨k1, k2, k3, k4, k5, k6⟩ := k
  refine ⟨k1.trans h1, k2.trans h2, k3.trans h3, Nat.le_trans h4 k4, fun i hi hn => ?_, fun i hi => ?_⟩
  · refine (k5 i (by omega) (fun ho => ?_)).trans (h5 i hi hn)
    rcases h6 i ho with h | h
    · exact hn h
    · omega
  · rcases k6 i hi with h | h
    · exact h6 i h
    · exact .inr (by omega)
theorem Fr.of_below {o : Nat → Prop} {w w' : World} (h : Below w.heap.size w w') : Fr o o w w' := ⟨h.os, h.tape, h.output, h.size, fun i hi _ => h.block i hi, fun _ h => .inl h⟩
theorem Fr.alloc {o o' : Nat → Prop} {a w : World} (h : Fr o o' a w) (x : Obj) : Fr o o' a (w.alloc x) := h.trans (Fr.of_below ((Below.refl _ _).alloc (Nat.le_refl _) x))
theorem Fr.same {o o' : Nat → Prop} {w w' : World} (h : Fr o o' w w') {P : Nat → Prop} (hP : ∀ b, P b → b < w.heap.size ∧ ¬ o b) : Same P w w' := fun i hi => h.block (hP i hi).1 (hP i hi).2
theorem Fr.still {o o' : Nat → Prop} {w w' : World} (h : Fr o o' w w') {P : Nat → Prop} (hP : ∀ b, P b → b < w.heap.size ∧ ¬ o b) : ∀ b, P b → b < w'.heap.size ∧ ¬ o' b := fun i hi => by
  obtain ⟨h1, h2⟩ := hP i hi
  refine ⟨Nat.lt_of_lt_of_le h1 h.size, fun ho => ?_⟩
  rcases h.owned ho with g | g
  · exact h2 g
  · omega
structure Visitor where
  St : Type
  G : Type
  fid : FuncId
  g : Nat
  Inv : St → G → World → Prop
  own : G → Nat → Prop
  cnt : St → Nat
  next : St → Syn → Int → Int → St × Bool
namespace Visitor
variable (V : Visitor)
mutual
def run (σ : V.St) : Syn → Int → Int → V.St × Bool
  | ⟨op, n, s, names, l⟩, around, depth =>
    if (V.next σ ⟨op, n, s, names, l⟩ around depth).2 then runs (V.next σ ⟨op, n, s, names, l⟩ around depth).1 l op (depth + 1) else ((V.next σ ⟨op, n, s, names, l⟩ around depth).1, false)
def runs (σ : V.St) : List Syn → Int → Int → V.St × Bool
  | [], _, _ => (σ, true)
  | t :: r, around, depth => if (run σ t around depth).2 then runs (run σ t around depth).1 r around depth else ((run σ t around depth).1, false)
end
def fval : Value := .func (.func V.fid) #[] #[.pointer (some ⟨V.g, 0, none⟩)]
structure Good : Prop where
  enter : ∀ (args : Array Value) (w : World), Sem.run Tryz.prog (callFunc V.fid args) w = .ok (.enter V.fid args) w
  calls : ∀ (σ : V.St) (γ : V.G) (w : World) (P : Nat → Prop) (t : Syn) (v : Value) (around depth : Int), V.Inv σ γ w → SynV w P t v → (∀ b, P b → b < w.heap.size ∧ ¬ V.own γ b) → t.big ≤ 1073741824 → V.cnt σ < 1073741824 → 0 ≤ depth → depth ≤ 2147483648 →
    Calls Tryz.prog V.fid #[v, .int .i64 around, .int .i64 depth, .pointer (some ⟨V.g, 0, none⟩)] w fun e w' => e = .returned (.bool (V.next σ t around depth).2) ∧ ∃ γ', V.Inv (V.next σ t around depth).1 γ' w' ∧ Fr (V.own γ) (V.own γ') w w'
  keep : ∀ (σ : V.St) (γ : V.G) (w w' : World), V.Inv σ γ w → Below w.heap.size w w' → V.Inv σ γ w'
  lt : ∀ (σ : V.St) (γ : V.G) (w : World) (i : Nat), V.Inv σ γ w → V.own γ i → i < w.heap.size
  cnt_le : ∀ (σ : V.St) (t : Syn) (around depth : Int), V.cnt (V.next σ t around depth).1 ≤ V.cnt σ + 1
theorem run_eq (σ : V.St) (t : Syn) (around depth : Int) : V.run σ t around depth = if (V.next σ t around depth).2 then V.runs (V.next σ t around depth).1 t.l t.op (depth + 1) else ((V.next σ t around depth).1, false) := by
  obtain ⟨op, n, s, names, l⟩ := t; rw [run]
theorem runs_nil (σ : V.St) (around depth : Int) : V.runs σ [] around depth = (σ, true) := by rw [runs]
theorem runs_cons (σ : V.St) (t : Syn) (r : List Syn) (around depth : Int) : V.runs σ (t :: r) around depth = if (V.run σ t around depth).2 then V.runs (V.run σ t around depth).1 r around depth else ((V.run σ t around depth).1, false) := by rw [runs]
theorem cnt_runs_of (l : List Syn) (hl : ∀ x ∈ l, ∀ (σ : V.St) (around depth : Int), V.cnt (V.run σ x around depth).1 ≤ V.cnt σ + x.size) :
    ∀ (σ : V.St) (around depth : Int), V.cnt (V.runs σ l around depth).1 ≤ V.cnt σ + Pl.sizes l := by
  induction l with
  | nil => intro σ around depth; rw [runs_nil, Pl.sizes_nil]; exact Nat.le_refl _
  | cons x r ih =>
    intro σ around depth
    have h1 := hl x List.mem_cons_self σ around depth
    have h2 := ih (fun y hy => hl y (List.mem_cons_of_mem _ hy)) (V.run σ x around depth).1 around depth
    rw [runs_cons, Pl.sizes_cons]
    split
    · omega
    · show V.cnt (V.run σ x around depth).1 ≤ _
      omega
theorem cnt_run (h : ∀ (σ : V.St) (t : Syn) (around depth : Int), V.cnt (V.next σ t around depth).1 ≤ V.cnt σ + 1) (t : Syn) : ∀ (σ : V.St) (around depth : Int), V.cnt (V.run σ t around depth).1 ≤ V.cnt σ + t.size := by
  induction t using Syn.ind with
  | h t ih =>
    intro σ around depth
    have h1 := h σ t around depth
    have h2 := cnt_runs_of V t.l ih (V.next σ t around depth).1 t.op (depth + 1)
    rw [run_eq, Pl.size_eq]
    split
    · omega
    · show V.cnt (V.next σ t around depth).1 ≤ _
      omega
def At (hf hd : Nat) (P : Nat → Prop) (σ : V.St) (γ : V.G) (w : World) : Prop :=
  V.Inv σ γ w ∧ Blk w hf 95 #[V.fval] ∧ Blk w hd 95 #[.func (.func 95) #[] #[.pointer (some ⟨hf, 0, none⟩), .pointer (some ⟨hd, 0, none⟩)]] ∧ ¬ V.own γ hf ∧ ¬ V.own γ hd ∧ ∀ b, P b → b < w.heap.size ∧ ¬ V.own γ b
theorem At.go {V : Visitor} {hf hd : Nat} {P : Nat → Prop} {σ σ' : V.St} {γ γ' : V.G} {w w' : World} (h : V.At hf hd P σ γ w) (hi : V.Inv σ' γ' w') (hr : Fr (V.own γ) (V.own γ') w w') : V.At hf hd P σ' γ' w' := by
  obtain ⟨h0, h1, h2, h3, h4, h5⟩ := h
  refine ⟨hi, h1.of_eq (hr.block h1.lt h3), h2.of_eq (hr.block h2.lt h4), fun ho => ?_, fun ho => ?_, hr.still h5⟩
  · rcases hr.owned ho with g | g
    · exact h3 g
    · have := h1.lt; omega
  · rcases hr.owned ho with g | g
    · exact h4 g
    · have := h2.lt; omega
theorem At.below {V : Visitor} (HV : V.Good) {hf hd : Nat} {P : Nat → Prop} {σ : V.St} {γ : V.G} {w w' : World} (h : V.At hf hd P σ γ w) (hb : Below w.heap.size w w') : V.At hf hd P σ γ w' := h.go (HV.keep σ γ w w' h.1 hb) (Fr.of_below hb)
def Post (γ : V.G) (r : V.St × Bool) (w : World) (e : Ending) (w' : World) : Prop := e = .returned (.bool r.2) ∧ ∃ γ', V.Inv r.1 γ' w' ∧ Fr (V.own γ) (V.own γ') w w'
def Rel (hf hd : Nat) (P : Nat → Prop) (γ : V.G) (w0 : World) (l : List Syn) (around depth : Int) (res : V.St × Bool) (k0 : Nat) (bx : Array Value) (k : Nat) (wr : World) : Prop :=
  ∃ σk γk, Blk wr k0 27 bx ∧ ¬ V.own γk k0 ∧ V.runs σk (l.drop k) around depth = res ∧ V.At hf hd P σk γk wr ∧ Fr (V.own γ) (V.own γk) w0 wr ∧ V.cnt σk + Pl.sizes (l.drop k) ≤ 1073741824
end Visitor
theorem getElem_drop_cons (l : List Syn) (k : Nat) (h : k < l.length) : l.drop k = l[k] :: l.drop (k + 1) := List.drop_eq_getElem_cons h
set_option maxRecDepth 100000 in
set_option maxHeartbeats 4000000 in
theorem descend_any (V : Visitor) (HV : V.Good) (hf hd : Nat) (P : Nat → Prop) (t : Syn) : ∀ (σ : V.St) (γ : V.G) (w : World) (v : Value) (around depth : Int), V.At hf hd P σ γ w → SynV w P t v → t.big ≤ 1073741824 → V.cnt σ + t.size ≤ 1073741824 → 0 ≤ depth → depth + t.size ≤ 2147483648 →
    Calls Tryz.prog 95 #[v, .int .i64 around, .int .i64 depth, .pointer (some ⟨hf, 0, none⟩), .pointer (some ⟨hd, 0, none⟩)] w (V.Post γ (V.run σ t around depth) w) := by
  induction t using Syn.ind with
  | h t ih =>
  intro σ γ w v around depth hat ht hbig hcnt hd0 hd1
  have HIH := Lib.hid ih
  clear ih
  have hsz := Pl.size_eq t
  have hbg := Pl.big_eq t
  have hlen := Pl.len_big t
  have hpos := Pl.size_pos t
  have HT := Lib.hid ht
  rw [synV_iff] at ht
  obtain ⟨hs, nv, lv, rfl, hn, hl⟩ := ht
  obtain ⟨a, c, rfl, hlc, hcm, hac, hkids⟩ := hl
  generalize hnl : t.l.length = n at *
  have HNL := Lib.hid hnl
  have hb1 : Below w.heap.size w (w.alloc (.cells #[.int .i64 t.op, .int .i64 t.n, .string t.s, nv, .slice a n c] 27)) := (Below.refl _ _).alloc (Nat.le_refl _) _
  have hat1 := hat.below HV hb1
  have bx := blk_new w #[.int .i64 t.op, .int .i64 t.n, .string t.s, nv, .slice a n c] 27
  have hno : ¬ V.own γ w.heap.size := fun ho => absurd (HV.lt σ γ w _ hat.1 ho) (Nat.lt_irrefl _)
  have HF1 := Lib.hid (Fr.of_below (o := V.own γ) hb1)
  have HC := Lib.hid (HV.calls σ γ _ P t _ around depth hat1.1 (HT.out.keep (Same.of_below hb1 (fun b hb => (hat.2.2.2.2.2 b hb).1))) hat1.2.2.2.2.2 hbig (by omega) hd0 (by omega))
  have c0 := hat1.2.1.cell 0 _ rfl
  unfold Visitor.fval at c0
  have HAT1 := Lib.hid hat1
  have HP := Lib.hid hat.2.2.2.2.2
  have HNO := Lib.hid hno
  have HBX := Lib.hid bx
  have HR := Lib.hid (V.run_eq σ t around depth)
  have HLE := Lib.hid (HV.cnt_le σ t around depth)
  have HENT := Lib.hid HV.enter
  have HSZ := Lib.hid hsz
  have HBG := Lib.hid hbg
  have hsl : Pl.sizes t.l < t.size := by omega
  have hbl : Pl.bigs t.l < t.big := by omega
  have HKIDS := Lib.hid hkids
  clear hs hn hat hat1 bx hb1 hno hac hnl hsz hbg hkids
  go_enter Tryz.func95, Tryz.ntmps95
  go_wp2_with fail
  rw [HENT.out, Oper.upon_enter]
  refine HC.out.mono ?_
  rintro e w1 ⟨rfl, γ1, hi1, hf1⟩
  have HAT2 := Lib.hid (HAT1.out.go hi1 hf1)
  have HF2 := Lib.hid (HF1.out.trans hf1)
  have hbx1 : Blk w1 w.heap.size 27 #[.int .i64 t.op, .int .i64 t.n, .string t.s, nv, .slice a n c] := HBX.out.of_eq (hf1.block HBX.out.lt HNO.out)
  have HNO2 := Lib.hid (show ¬ V.own γ1 w.heap.size from fun ho => by
    rcases hf1.owned ho with g | g
    · exact HNO.out g
    · rw [size_alloc] at g; omega)
  have HBX1 := Lib.hid hbx1
  have c4 := hbx1.cell 4 _ rfl
  clear HC c0
  generalize hnx : V.next σ t around depth = nx at *
  obtain ⟨σ1, ok⟩ := nx
  have HNX := Lib.hid hnx
  clear hnx hf1 hi1 hbx1
  simp only at HR HLE HAT2 HF2 HNO2
  cases ok
  · go_wp2
    go_ret
    have hr := HR.out
    rw [if_neg (by simp)] at hr
    rw [hr]
    exact ⟨rfl, γ1, HAT2.out.1, HF2.out⟩
  · have hr := HR.out
    rw [if_pos rfl] at hr
    generalize hres : V.runs σ1 t.l t.op (depth + 1) = res at hr
    have HRES := Lib.hid hres
    have HRR := Lib.hid hr
    clear hr hres HR
    rcases HKIDS.out with hk0 | ⟨b, off, rfl, hPb, hka⟩
    · have hn0 : n = 0 := by rw [← HNL.out, hk0]; rfl
      subst hn0
      have HK0 := Lib.hid hk0
      clear hk0
      go_wp2_with fail
      go_loopg [20] 1 (fun g v wr => v = .int .i64 0 ∧ wr = w1)
      case atStart => exact ⟨rfl, rfl⟩
      case round =>
        obtain ⟨rfl, rfl⟩ := hrel
        go_wp2
        go_ret
        have hr := HRES.out
        rw [HK0.out, V.runs_nil] at hr
        subst hr
        rw [HRR.out]
        exact ⟨rfl, γ1, HAT2.out.1, HF2.out⟩
    · have HKA := Lib.hid hka
      have HPB := Lib.hid hPb
      clear hka hPb
      go_wp2_with fail
      go_loopg [20] (n + 1) (fun g v wr => ∃ k : Nat, k ≤ n ∧ v = .int .i64 k ∧ g = n + 1 - k ∧ V.Rel hf hd P γ w t.l t.op (depth + 1) res w.heap.size #[.int .i64 t.op, .int .i64 t.n, .string t.s, nv, .slice (some ⟨b, off, none⟩) n c] k wr)
      case atStart =>
        refine ⟨0, by omega, rfl, by omega, σ1, γ1, HBX1.out, HNO2.out, HRES.out, HAT2.out, HF2.out, ?_⟩
        have := HLE.out
        rw [List.drop_zero]
        omega
      case round =>
        obtain ⟨k, hk, rfl, hg, σk, γk, hbk, hnk, hrun, hatk, hfk, hck⟩ := hrel
        by_cases hlt : k < n
        · have hkl : k < t.l.length := by rw [HNL.out]; exact hlt
          have hmem : t.l[k] ∈ t.l := List.getElem_mem hkl
          have hms := Pl.mem_size hmem
          have hmb := Pl.mem_big hmem
          have hsame := hfk.same HP.out
          obtain ⟨xv, ⟨x0, x1, x2, x3, x4, hxv, a0, a1, a2, a3, a4⟩, hxs⟩ := (kidsAt_iff _ _ _ _ _).1 (HKA.out.keep hsame HPB.out) k hkl
          obtain ⟨na, nn, nc, la, ln, lc, hxf⟩ := hxs.form
          rw [hxv] at hxf
          simp only [Value.agg.injEq, Array.mk.injEq, List.cons.injEq, and_true] at hxf
          obtain ⟨rfl, rfl, rfl, rfl, rfl⟩ := hxf
          subst hxv
          generalize t.l[k].op = xo at *
          generalize t.l[k].n = xn at *
          generalize t.l[k].s = xs at *
          rw [getElem_drop_cons _ _ hkl, Pl.sizes_cons] at hck
          rw [getElem_drop_cons _ _ hkl, V.runs_cons] at hrun
          have hb2 : Below wr.heap.size wr (wr.alloc (.cells #[.int .i64 xo, .int .i64 xn, .string xs, .slice na nn nc, .slice la ln lc] 27)) := (Below.refl _ _).alloc (Nat.le_refl _) _
          have hat2 := hatk.below HV hb2
          have d0 := hat2.2.2.1.cell 0 _ rfl
          have d1 := (hb2.cell (p := ⟨w.heap.size, 0, none⟩) hbk.lt).trans (hbk.cell 0 _ rfl)
          have HC := Lib.hid (HIH.out _ hmem σk γk _ (.agg #[.int .i64 xo, .int .i64 xn, .string xs, .slice na nn nc, .slice la ln lc]) t.op (depth + 1) hat2 (hxs.keep (Same.of_below hb2 (fun b hb => (hatk.2.2.2.2.2 b hb).1))) (by omega) (by omega) (by omega) (by omega))
          have HFK := Lib.hid (hfk.trans (Fr.of_below hb2))
          have HATK := Lib.hid hat2
          have HBK := Lib.hid (hbk.of_eq (hb2.block _ hbk.lt))
          have HNK := Lib.hid hnk
          have HRUN := Lib.hid hrun
          have HLX := Lib.hid (V.cnt_run HV.cnt_le t.l[k] σk t.op (depth + 1))
          generalize V.run σk t.l[k] t.op (depth + 1) = rx at *
          obtain ⟨σx, okx⟩ := rx
          generalize t.l[k].size = sx at *
          clear hbk hnk hrun hatk hfk hsame hxs hb2 hat2 hmem hms hmb c4
          go_wp2_with fail
          refine HC.out.mono ?_
          rintro e w3 ⟨rfl, γ3, hi3, hf3⟩
          have HAT3 := Lib.hid (HATK.out.go hi3 hf3)
          have HF3 := Lib.hid (HFK.out.trans hf3)
          have HB3 := Lib.hid (HBK.out.of_eq (hf3.block HBK.out.lt HNK.out))
          have HN3 := Lib.hid (show ¬ V.own γ3 w.heap.size from fun ho => by
            rcases hf3.owned ho with g | g
            · exact HNK.out g
            · have := HBK.out.lt; omega)
          clear hi3 hf3 a0 a1 a2 a3 a4 d0 d1
          cases okx
          · go_wp2
            go_ret
            have hr := HRUN.out
            rw [if_neg (by simp)] at hr
            subst hr
            rw [HRR.out]
            exact ⟨rfl, γ3, HAT3.out.1, HF3.out⟩
          · go_wp2
            go_roundg (gk - 1)
            case measure => omega
            case rel =>
              refine ⟨k + 1, by omega, by go_num, by omega, σx, γ3, HB3.out, HN3.out, ?_, HAT3.out, HF3.out, ?_⟩
              · have hr := HRUN.out
                simpa using hr
              · have := HLX.out
                omega
        · have hkn : t.l.drop k = [] := List.drop_eq_nil_of_le (by rw [HNL.out]; omega)
          rw [hkn, V.runs_nil] at hrun
          have HRUN := Lib.hid hrun
          have HATK := Lib.hid hatk
          have HFK := Lib.hid hfk
          clear hrun hatk hfk hbk hnk hkn hck c4
          go_wp2
          go_ret
          have hr := HRUN.out
          subst hr
          rw [HRR.out]
          exact ⟨rfl, γk, HATK.out.1, HFK.out⟩
end Go.Proofs.YtjedahcpkcgpeaaGreatDoor

/-
  Walks of layer 4: the parser in memory, its token, and what it panics with.
-/
namespace Go.Proofs.YtjedahcpkcgpeaaGreatDoor
open Go Go.RowKit
set_option linter.unusedSimpArgs false
def store4 (w : World) (g : Nat) (x0 x1 x2 x3 : Value) : World := (((w.setCell ⟨g, 0, none⟩ x0).setCell ⟨g, 1, none⟩ x1).setCell ⟨g, 2, none⟩ x2).setCell ⟨g, 3, none⟩ x3
theorem store4_below {B : Nat} {a w : World} (h : Below B a w) {g : Nat} (hg : B ≤ g) (x0 x1 x2 x3 : Value) : Below B a (store4 w g x0 x1 x2 x3) := (((h.setCell hg _).setCell hg _).setCell hg _).setCell hg _
theorem store4_blk {w : World} {g : Nat} {T : TypeId} {a b c d : Value} (h : Blk w g T #[a, b, c, d]) (x0 x1 x2 x3 : Value) : Blk (store4 w g x0 x1 x2 x3) g T #[x0, x1, x2, x3] := by
  have := (((h.set 0 x0).set 1 x1).set 2 x2).set 3 x3
  unfold store4
  simpa using this
theorem four_cells {w : World} {g : Nat} {T : TypeId} {a b c d : Value} (h : Blk w g T #[a, b, c, d]) : w.cell? ⟨g, 0, none⟩ = some a ∧ w.cell? ⟨g, 1, none⟩ = some b ∧ w.cell? ⟨g, 2, none⟩ = some c ∧ w.cell? ⟨g, 3, none⟩ = some d := ⟨h.cell 0 _ rfl, h.cell 1 _ rfl, h.cell 2 _ rfl, h.cell 3 _ rfl⟩
structure Src where
  b : Nat
  off : Nat
  c : Nat
  ts : List Pl.Tok
  en : Pl.Tok
structure SrcAt (w : World) (s : Src) : Prop where
  room : s.ts.length + 1 ≤ s.c
  lim : s.c ≤ maxLen
  endk : s.en.kind = 8
  endt : s.en.text = []
  lens : ∀ t ∈ s.ts, t.text.length ≤ maxLen
  toks : ∀ j (hj : j < (s.ts ++ [s.en]).length), TokAt w s.b (s.off + 4 * j) (s.ts ++ [s.en])[j]
structure PAt (w : World) (g : Nat) (s : Src) (i : Nat) : Prop where
  blk : Blk w g 116 #[.slice (some ⟨s.b, s.off, none⟩) (s.ts.length + 1) s.c, .int .i64 i]
  before : s.b < g
  src : SrcAt w s
  inn : i ≤ s.ts.length
theorem SrcAt.keep {w w' : World} {s : Src} (h : SrcAt w s) (he : w'.heap[s.b]? = w.heap[s.b]?) : SrcAt w' s := by
  refine ⟨h.room, h.lim, h.endk, h.endt, h.lens, fun j hj => ?_⟩
  obtain ⟨h1, h2, h3, h4⟩ := h.toks j hj
  have e : ∀ o, w'.cell? ⟨s.b, o, none⟩ = w.cell? ⟨s.b, o, none⟩ := fun o => by simp only [World.cell?, he]
  exact ⟨(e _).trans h1, (e _).trans h2, (e _).trans h3, (e _).trans h4⟩
theorem PAt.below {w w' : World} {g i : Nat} {s : Src} (h : PAt w g s i) (hb : Below w.heap.size w w') : PAt w' g s i :=
  ⟨h.blk.of_eq (hb.block _ h.blk.lt), h.before, h.src.keep (hb.block _ (Nat.lt_trans h.before h.blk.lt)), h.inn⟩
theorem PAt.tok {w : World} {g i : Nat} {s : Src} (h : PAt w g s i) : ∃ li co, w.cell? ⟨s.b, s.off + i * 4, none⟩ = some (.int .i64 (Pl.tkAt s.ts i).kind) ∧ w.cell? ⟨s.b, s.off + i * 4 + 1, none⟩ = some (.string (Pl.mk (Pl.tkAt s.ts i).text)) ∧ w.cell? ⟨s.b, s.off + i * 4 + 2, none⟩ = some (.int .i64 li) ∧ w.cell? ⟨s.b, s.off + i * 4 + 3, none⟩ = some (.int .i64 co) := by
  have hj : i < (s.ts ++ [s.en]).length := by have := h.inn; simp; omega
  obtain ⟨h1, h2, h3, h4⟩ := h.src.toks i hj
  have hk : (s.ts ++ [s.en])[i].kind = (Pl.tkAt s.ts i).kind ∧ (s.ts ++ [s.en])[i].text = (Pl.tkAt s.ts i).text := by
    unfold Pl.tkAt
    rcases Nat.lt_or_ge i s.ts.length with hlt | hge
    · rw [List.getElem_append_left hlt]
      simp [List.getD, hlt]
    · rw [List.getElem_append_right hge]
      have : i = s.ts.length := by have := h.inn; omega
      subst this
      simp [List.getD, h.src.endk, h.src.endt]
  rw [hk.1] at h1
  rw [hk.2] at h2
  rw [Nat.mul_comm 4 i] at h1 h2 h3 h4
  exact ⟨_, _, h1, h2, h3, h4⟩
def faultAt (s : Src) (i : Nat) : Ending := .panicked [{ v := .iface 113 (.agg #[.int .i64 i, .int .i64 (if (Pl.tkAt s.ts i).kind = 8 then 4 else 3)]), recovered := false }]
def TokenOut (s : Src) (i : Nat) (w : World) (e : Ending) (w' : World) : Prop := (∃ li co, e = .returned (.agg #[.int .i64 (Pl.tkAt s.ts i).kind, .string (Pl.mk (Pl.tkAt s.ts i).text), .int .i64 li, .int .i64 co])) ∧ Below w.heap.size w w'
set_option maxRecDepth 100000 in
set_option maxHeartbeats 4000000 in
theorem ptoken_any (s : Src) (g i : Nat) (w : World) (h : PAt w g s i) : Calls Tryz.prog 69 #[.pointer (some ⟨g, 0, none⟩)] w (TokenOut s i w) := by
  have hb0 : Below w.heap.size w (w.alloc (.cells #[.int .i64 0, .string ⟨#[]⟩, .int .i64 0, .int .i64 0] 45)) := (Below.refl _ _).alloc (Nat.le_refl _) _
  have h0 := h.below hb0
  have bx := blk_new w #[.int .i64 0, .string ⟨#[]⟩, .int .i64 0, .int .i64 0] 45
  obtain ⟨li, co, t0, t1, t2, t3⟩ := h0.tok
  have g0 : World.cell? _ ⟨g, 0, none⟩ = some (.slice (some ⟨s.b, s.off, none⟩) (s.ts.length + 1) s.c) := h0.blk.cell 0 _ rfl
  have g1 : World.cell? _ ⟨g, 1, none⟩ = some (.int .i64 i) := h0.blk.cell 1 _ rfl
  obtain ⟨c0, c1, c2, c3⟩ := four_cells bx
  have x0 := bx.thaw 0
  have x1 := bx.thaw 1
  have x2 := bx.thaw 2
  have x3 := bx.thaw 3
  have hin := h.inn
  have hi1 : (0 : Int) ≤ (i : Int) := by omega
  have hi2 : (i : Int) < (s.ts.length : Int) + 1 := by omega
  have HB0 := Lib.hid hb0
  have HBX := Lib.hid bx
  unfold TokenOut
  generalize (Pl.tkAt s.ts i).kind = tk at *
  generalize Pl.mk (Pl.tkAt s.ts i).text = tt at *
  generalize s.ts.length = n at *
  clear h h0 hb0 bx hin
  go_enter Tryz.func69, Tryz.ntmps69
  go_wp2_with fail
  generalize w.alloc (.cells #[.int .i64 0, .string ⟨#[]⟩, .int .i64 0, .int .i64 0] 45) = w0 at *
  go_region
  all_goals
    go_wp2
    have HEND := (store4_below HB0.out (Nat.le_refl w.heap.size) (.int .i64 tk) (.string tt) (.int .i64 li) (.int .i64 co)).drew
    have HENB := store4_blk HBX.out (.int .i64 tk) (.string tt) (.int .i64 li) (.int .i64 co)
    unfold store4 at HEND HENB
    obtain ⟨k0, k1, k2, k3⟩ := four_cells HENB
    refine bodyPost_ret (v := .agg #[.int .i64 tk, .string tt, .int .i64 li, .int .i64 co]) (by simp [results, Tryz.results69, go_sem, k0, k1, k2, k3]) rfl ?_
    exact ⟨⟨li, co, rfl⟩, HEND⟩
end Go.Proofs.YtjedahcpkcgpeaaGreatDoor

/-
  Walks of layer 4: key words and symbols, what is taken, and what is refused.
-/
namespace Go.Proofs.YtjedahcpkcgpeaaGreatDoor
open Go Go.RowKit
set_option linter.unusedSimpArgs false
set_option maxRecDepth 100000 in
set_option maxHeartbeats 4000000 in
theorem pfixed_any (k : Int) (t : ByteArray) (li co : Int) (w : World) : Calls Tryz.prog 107 #[.agg #[.int .i64 k, .string t, .int .i64 li, .int .i64 co]] w fun e w' => e = .returned (.string (if k = 6 ∨ k = 7 then t else ⟨#[]⟩)) ∧ Below w.heap.size w w' := by
  have hb0 : Below w.heap.size w (w.alloc (.cells #[.int .i64 k, .string t, .int .i64 li, .int .i64 co] 45)) := (Below.refl _ _).alloc (Nat.le_refl _) _
  obtain ⟨c0, c1, c2, c3⟩ := four_cells (blk_new w #[.int .i64 k, .string t, .int .i64 li, .int .i64 co] 45)
  have HB0 := Lib.hid hb0
  clear hb0
  obtain ⟨b6, h6⟩ : ∃ b, (k == 6) = b := ⟨_, rfl⟩
  obtain ⟨b7, h7⟩ : ∃ b, (k == 7) = b := ⟨_, rfl⟩
  have HE := Lib.hid (show (if k = 6 ∨ k = 7 then t else (⟨#[]⟩ : ByteArray)) = if (b6 || b7) = true then t else ⟨#[]⟩ from by
    rw [← h6, ← h7]
    simp)
  generalize (if k = 6 ∨ k = 7 then t else (⟨#[]⟩ : ByteArray)) = rr at *
  go_enter Tryz.func107, Tryz.ntmps107
  cases b6 <;> cases b7
  all_goals
    go_wp2
    go_ret
    rw [HE.out]
    exact ⟨by first | rfl | simp, HB0.out⟩
set_option maxRecDepth 100000 in
set_option maxHeartbeats 4000000 in
theorem prefuse_any (s : Src) (g i : Nat) (w : World) (h : PAt w g s i) : Calls Tryz.prog 106 #[.pointer (some ⟨g, 0, none⟩)] w fun e w' => e = faultAt s i ∧ Below w.heap.size w w' := by
  have g1 : World.cell? _ ⟨g, 1, none⟩ = some (.int .i64 i) := h.blk.cell 1 _ rfl
  have HP := Lib.hid h
  have hfa : faultAt s i = .panicked [{ v := .iface 113 (.agg #[.int .i64 i, .int .i64 (if (Pl.tkAt s.ts i).kind = 8 then 4 else 3)]), recovered := false }] := rfl
  rw [hfa]
  have hb0 : Below w.heap.size w (w.alloc (.cells #[.int .i64 i, .int .i64 3] 113)) := (Below.refl _ _).alloc (Nat.le_refl _) _
  have HB0 := Lib.hid hb0
  have HX := Lib.hid (blk_new w #[.int .i64 i, .int .i64 3] 113)
  have HT := Lib.hid (ptoken_any s g i _ (h.below hb0))
  unfold TokenOut at HT
  clear h hb0 hfa
  generalize (Pl.tkAt s.ts i).kind = tk at *
  generalize Pl.mk (Pl.tkAt s.ts i).text = tt at *
  obtain ⟨b8, h8⟩ : ∃ b, (tk == 8) = b := ⟨_, rfl⟩
  have HE := Lib.hid (show (if tk = 8 then (4 : Int) else 3) = if b8 = true then 4 else 3 from by rw [← h8]; simp)
  generalize (if tk = 8 then (4 : Int) else 3) = code at *
  go_enter Tryz.func106, Tryz.ntmps106
  go_wp2_with fail
  refine HT.out.mono ?_
  rintro e w1 ⟨⟨li, co, rfl⟩, hb1⟩
  have HB1 := Lib.hid (show Below w.heap.size w w1 from HB0.out.trans (hb1.mono HB0.out.size))
  have hfl : ∀ W, Sem.run Tryz.prog (Instr.field 45 (.agg #[.int .i64 tk, .string tt, .int .i64 li, .int .i64 co]) 0) W = .ok (.int .i64 tk) W := fun _ => rfl
  have hx1 := HX.out.of_eq (hb1.block _ HX.out.lt)
  have x0 : World.cell? _ ⟨w.heap.size, 0, none⟩ = some (.int .i64 i) := hx1.cell 0 _ rfl
  have x1 : World.cell? _ ⟨w.heap.size, 1, none⟩ = some (.int .i64 3) := hx1.cell 1 _ rfl
  have f1 := hx1.thaw 1
  clear hb1 hx1 g1
  cases b8
  · go_wp2
    exact ⟨rfl, by rw [HE.out]; rfl, HB1.out⟩
  · go_wp2
    exact ⟨rfl, by rw [HE.out]; rfl, HB1.out.setCell (Nat.le_refl w.heap.size) _⟩
theorem fr_below {o : Nat → Prop} {w w' : World} (h : Below w.heap.size w w') : Fr o o w w' := ⟨h.os, h.tape, h.output, h.size, fun i hi _ => h.block i hi, fun _ hi => .inl hi⟩
theorem PAt.next {w : World} {g i : Nat} {s : Src} (h : PAt w g s i) (hk : (Pl.tkAt s.ts i).kind ≠ 8) : PAt (w.setCell ⟨g, 1, none⟩ (.int .i64 ((i : Int) + 1))) g s (i + 1) := by
  have hlt : i + 1 ≤ s.ts.length := Pl.kind_lt rfl hk
  refine ⟨?_, h.before, h.src.keep (Below.heap_setCell w ⟨g, 1, none⟩ _ s.b (fun e => by have := h.before; have e : s.b = g := e; omega)), hlt⟩
  have := h.blk.set 1 (.int .i64 ((i : Int) + 1))
  simpa using this
theorem fr_next {w w1 : World} {g : Nat} (v : Value) (hb : Below w.heap.size w w1) : Fr (· = g) (· = g) w (w1.setCell ⟨g, 1, none⟩ v) :=
  ⟨hb.os, hb.tape, hb.output, by simpa [World.setCell] using hb.size, fun i hi hn => (Below.heap_setCell w1 ⟨g, 1, none⟩ v i hn).trans (hb.block i hi), fun _ h => .inl h⟩
def TakeOut (s : Src) (g : Nat) (r : Pl.PR Pl.Bytes) (w : World) (e : Ending) (w' : World) : Prop :=
  (match r with
    | .ok t j => e = .returned (.string (Pl.mk t)) ∧ PAt w' g s j
    | .bad j => e = faultAt s j) ∧ Fr (· = g) (· = g) w w'
set_option maxRecDepth 100000 in
set_option maxHeartbeats 4000000 in
theorem ptake_any (s : Src) (g i : Nat) (k : Int) (hk8 : k ≠ 8) (w : World) (h : PAt w g s i) : Calls Tryz.prog 108 #[.pointer (some ⟨g, 0, none⟩), .int .i64 k] w (TakeOut s g (Pl.takeK s.ts k i) w) := by
  have HT := Lib.hid (ptoken_any s g i w h)
  have HP := Lib.hid h
  have HN := Lib.hid (fun W (hW : PAt W g s i) (hk : (Pl.tkAt s.ts i).kind = k) => hW.next (by rw [hk]; exact hk8))
  have HRF := Lib.hid (fun W (hW : PAt W g s i) => prefuse_any s g i W hW)
  have hin := h.inn
  have hlim : s.ts.length + 1 ≤ maxLen := Nat.le_trans h.src.room h.src.lim
  unfold maxLen at hlim
  unfold TokenOut at HT
  have HTK := Lib.hid (show Pl.takeK s.ts k i = if (Pl.tkAt s.ts i).kind = k then .ok (Pl.tkAt s.ts i).text (i + 1) else .bad i from rfl)
  generalize Pl.takeK s.ts k i = r at *
  generalize (Pl.tkAt s.ts i).kind = tk at *
  generalize (Pl.tkAt s.ts i).text = tt at *
  obtain ⟨bk, hbk⟩ : ∃ b, (tk != k) = b := ⟨_, rfl⟩
  have HBK := Lib.hid hbk
  clear h
  go_enter Tryz.func108, Tryz.ntmps108
  go_wp2_with fail
  refine HT.out.mono ?_
  rintro e w1 ⟨⟨li, co, rfl⟩, hb1⟩
  have HB1 := Lib.hid (show Below w.heap.size w (w1.alloc (.cells #[.int .i64 tk, .string (Pl.mk tt), .int .i64 li, .int .i64 co] 45)) from hb1.alloc hb1.size _)
  have HP1 := Lib.hid (HP.out.below HB1.out)
  obtain ⟨c0, c1, c2, c3⟩ := four_cells (blk_new w1 #[.int .i64 tk, .string (Pl.mk tt), .int .i64 li, .int .i64 co] 45)
  have g1 : World.cell? _ ⟨g, 1, none⟩ = some (.int .i64 i) := HP1.out.blk.cell 1 _ rfl
  have f1 := HP1.out.blk.thaw 1
  have hgl := HP1.out.blk.lt
  have hne : ¬ w1.heap.size = g := fun e => by
    have h1 := (HP.out.below hb1).blk.lt
    omega
  have hne2 : ¬ g = w1.heap.size := fun e => hne e.symm
  clear hb1 hgl
  cases bk
  · have hk : tk = k := by simpa using HBK.out
    have hk2 : (tk == k) = true := beq_iff_eq.2 hk
    have HK := Lib.hid hk
    clear hk
    go_wp2
    go_ret
    unfold TakeOut
    rw [HTK.out, if_pos HK.out]
    exact ⟨⟨rfl, HN.out _ HP1.out HK.out⟩, fr_next _ HB1.out⟩
  · have hk : ¬ tk = k := by simpa using HBK.out
    go_wp2_with fail
    refine (HRF.out _ HP1.out).mono ?_
    rintro e w2 ⟨rfl, hb2⟩
    refine ⟨rfl, ?_⟩
    unfold TakeOut
    rw [HTK.out, if_neg hk]
    exact ⟨rfl, fr_below (HB1.out.trans (hb2.mono HB1.out.size))⟩
def PassOut (s : Src) (g i : Nat) (b : Bool) (w : World) (e : Ending) (w' : World) : Prop := e = .returned (.bool b) ∧ PAt w' g s (if b = true then i + 1 else i) ∧ Fr (· = g) (· = g) w w'
theorem mk_toList (b : Pl.Bytes) : (Pl.mk b).toList = b := by rw [Pl.toList_eq]; rfl
theorem pass_kind {ts : List Pl.Tok} {i : Nat} {b : Pl.Bytes} (h : Pl.passes ts i b = true) (hb : b ≠ []) : (Pl.tkAt ts i).kind ≠ 8 := fun e => by
  have := Pl.pass_lt h hb
  unfold Pl.passes Pl.fixedT at h
  rw [if_neg (by rw [e]; decide)] at h
  exact hb (by simpa using h)
set_option maxRecDepth 100000 in
set_option maxHeartbeats 4000000 in
theorem ppass_any (s : Src) (g i : Nat) (b : Pl.Bytes) (hb : b ≠ []) (w : World) (h : PAt w g s i) : Calls Tryz.prog 64 #[.pointer (some ⟨g, 0, none⟩), .string (Pl.mk b)] w (PassOut s g i (Pl.passes s.ts i b) w) := by
  have HT := Lib.hid (ptoken_any s g i w h)
  have HP := Lib.hid h
  have HN := Lib.hid (fun W (hW : PAt W g s i) (hk : Pl.passes s.ts i b = true) => hW.next (pass_kind hk hb))
  have hin := h.inn
  have hlim : s.ts.length + 1 ≤ maxLen := Nat.le_trans h.src.room h.src.lim
  unfold maxLen at hlim
  unfold TokenOut at HT
  have HPS := Lib.hid (show ((if (Pl.tkAt s.ts i).kind = 6 ∨ (Pl.tkAt s.ts i).kind = 7 then Pl.mk (Pl.tkAt s.ts i).text else (⟨#[]⟩ : ByteArray)).toList != (Pl.mk b).toList) = !Pl.passes s.ts i b from by
    rw [mk_toList]
    have : (if (Pl.tkAt s.ts i).kind = 6 ∨ (Pl.tkAt s.ts i).kind = 7 then Pl.mk (Pl.tkAt s.ts i).text else (⟨#[]⟩ : ByteArray)).toList = Pl.fixedT (Pl.tkAt s.ts i) := by
      unfold Pl.fixedT
      split
      · exact mk_toList _
      · exact mk_toList []
    rw [this]
    rfl)
  generalize Pl.passes s.ts i b = r at *
  generalize (Pl.tkAt s.ts i).kind = tk at *
  generalize Pl.mk (Pl.tkAt s.ts i).text = tt at *
  have HF := Lib.hid (fun li co W => pfixed_any tk tt li co W)
  generalize (if tk = 6 ∨ tk = 7 then tt else (⟨#[]⟩ : ByteArray)) = fx at *
  generalize Pl.mk b = bb at *
  have hps := HPS.out
  clear h
  go_enter Tryz.func64, Tryz.ntmps64
  go_wp2_with fail
  refine HT.out.mono ?_
  rintro e w1 ⟨⟨li, co, rfl⟩, hb1⟩
  have HB1 := Lib.hid hb1
  clear hb1
  go_wp2_with fail
  refine (HF.out _ _ _).mono ?_
  rintro e w2 ⟨rfl, hb2⟩
  have HB2 := Lib.hid (show Below w.heap.size w w2 from HB1.out.trans (hb2.mono HB1.out.size))
  have HP2 := Lib.hid (HP.out.below HB2.out)
  have g1 : World.cell? _ ⟨g, 1, none⟩ = some (.int .i64 i) := HP2.out.blk.cell 1 _ rfl
  have f1 := HP2.out.blk.thaw 1
  clear hb2
  clear hps
  cases r
  · have q : (fx.toList == bb.toList) = false := by simpa using HPS.out
    go_wp2
    go_ret
    exact ⟨rfl, HP2.out, fr_below HB2.out⟩
  · have q : (fx.toList == bb.toList) = true := by simpa using HPS.out
    go_wp2
    go_ret
    exact ⟨rfl, HN.out _ HP2.out (by first | rfl | trivial), fr_next _ HB2.out⟩
end Go.Proofs.YtjedahcpkcgpeaaGreatDoor

/-
  Walks of layer 4: rows of names while they grow; an MPATH.
-/
namespace Go.Proofs.YtjedahcpkcgpeaaGreatDoor
open Go Go.RowKit
set_option linter.unusedSimpArgs false
theorem infoStr1 : (Tryz.prog.info? 9).map (fun i => (i.zero, i.size, i.bytes)) = some (some (.string ⟨#[]⟩), 1, 16) := by kernel_rfl
theorem info3 {P : Program} {t : TypeId} {z : Value} {n b : Nat} (h : (P.info? t).map (fun i => (i.zero, i.size, i.bytes)) = some (some z, n, b)) : ∃ i, P.info? t = some i ∧ i.zero = some z ∧ i.size = n ∧ i.bytes = b := by
  cases hi : P.info? t with
  | none => rw [hi] at h; cases h
  | some i =>
    rw [hi] at h
    simp only [Option.map_some, Option.some.injEq, Prod.mk.injEq] at h
    exact ⟨i, rfl, h.1, h.2.1, h.2.2⟩
structure NamesAt (w : World) (base : Nat) (v : Value) (ns : List ByteArray) : Prop where
  row : w.ownsRow base 9 1 v ns.length (ns.map Value.string)
  lens : ∀ z ∈ ns, z.size ≤ maxLen
theorem NamesAt.keep {w w' : World} {base g : Nat} {v : Value} {ns : List ByteArray} (h : NamesAt w base v ns) (hg : g < base) (hf : Fr (· = g) (· = g) w w') : NamesAt w' base v ns := by
  refine ⟨h.row.kept (row := some g) ⟨hf.1, hf.2.1, hf.2.2.1, hf.size, fun k hk hn => hf.block hk (fun e => hn (by rw [e]))⟩ ?_, h.lens⟩
  refine .inr fun e => ?_
  have := (h.row.lt g e).1
  omega
theorem NamesAt.strs {w : World} {base : Nat} {v : Value} {ns : List ByteArray} (h : NamesAt w base v ns) : StrSl w (fun b => base ≤ b ∧ b < w.heap.size) v ns := by
  have hr := h.row
  rcases h.row.2 with ⟨rfl, h0⟩ | ⟨g, cap, cur, rfl, hbg, hg, hnc, hcm, -, -⟩
  · obtain rfl := List.eq_nil_of_length_eq_zero h0
    exact ⟨none, 0, rfl, Nat.le_refl _, Nat.zero_le _, fun _ => rfl, h.lens, .inl rfl⟩
  · refine ⟨_, cap, rfl, hnc, hcm, (fun e => by cases e), h.lens, .inr ⟨g, 0, rfl, ⟨hbg, (hr.lt g rfl).2⟩, fun j hj => ?_⟩⟩
    have := hr.cellAt j (by omega)
    rw [Nat.zero_add, this, List.getElem?_map, List.getElem?_eq_getElem hj]
    rfl
def NamesOut (s : Src) (g : Nat) (r : Pl.PR (List ByteArray)) (w : World) (e : Ending) (w' : World) : Prop :=
  (match r with
    | .ok ns j => ∃ v, e = .returned v ∧ StrSl w' (fun b => w.heap.size ≤ b ∧ b < w'.heap.size) v ns ∧ PAt w' g s j
    | .bad j => e = faultAt s j) ∧ Fr (· = g) (· = g) w w'
theorem text_lens {s : Src} {w : World} (h : SrcAt w s) (i : Nat) : (Pl.mk (Pl.tkAt s.ts i).text).size ≤ maxLen := by
  show (Pl.tkAt s.ts i).text.toArray.size ≤ maxLen
  rw [List.size_toArray]
  unfold Pl.tkAt
  rcases Nat.lt_or_ge i s.ts.length with hlt | hge
  · simp only [List.getD, List.getElem?_eq_getElem hlt, Option.getD_some]
    exact h.lens _ (List.getElem_mem hlt)
  · simp [List.getD, List.getElem?_eq_none hge]
theorem PAt.grown {w w' : World} {g i : Nat} {s : Src} {row : Option Nat} (h : PAt w g s i) (hg : w.grownBy w' row) (hr : ∀ k, row = some k → g < k) : PAt w' g s i := by
  have h1 : w'.heap[g]? = w.heap[g]? := hg.block g h.blk.lt (fun e => by have := hr g e.symm; omega)
  have h2 : w'.heap[s.b]? = w.heap[s.b]? := hg.block s.b (Nat.lt_trans h.before h.blk.lt) (fun e => by have := hr s.b e.symm; have := h.before; omega)
  exact ⟨h.blk.of_eq h1, h.before, h.src.keep h2, h.inn⟩
theorem fr_grown {w w1 w2 : World} {g : Nat} {row : Option Nat} (h : Fr (· = g) (· = g) w w1) (hg : w1.grownBy w2 row) (hr : ∀ k, row = some k → w.heap.size ≤ k) : Fr (· = g) (· = g) w w2 :=
  ⟨hg.os.trans h.1, hg.tape.trans h.2.1, hg.output.trans h.2.2.1, Nat.le_trans h.size hg.size, fun i hi hn => (hg.block i (Nat.lt_of_lt_of_le hi h.size) (fun e => by have := hr i e.symm; omega)).trans (h.block hi hn), fun _ hi => .inl hi⟩
set_option maxRecDepth 100000 in
set_option maxHeartbeats 8000000 in
theorem pmodulePath_any (s : Src) (g i : Nat) (w : World) (h : PAt w g s i) (hbig : s.ts.length ≤ 536870912) : Calls Tryz.prog 71 #[.pointer (some ⟨g, 0, none⟩)] w (NamesOut s g (Pl.mpath s.ts i) w) := by
  obtain ⟨i9, hi0, hz0, hz1, hz2⟩ := info3 infoStr1
  have HP := Lib.hid h
  have HGL := Lib.hid h.blk.lt
  have HTK := Lib.hid (fun W j (hW : PAt W g s j) => ptake_any s g j 2 (by decide) W hW)
  have HPS := Lib.hid (fun W j (hW : PAt W g s j) => ppass_any s g j [46] (by decide) W hW)
  have HMP := Lib.hid (show Pl.mpath s.ts i = (Pl.takeK s.ts 2 i).then fun t j => Pl.mpMore s.ts (s.ts.length + 1) [Pl.mk t] j from rfl)
  generalize Pl.mpath s.ts i = r at *
  have HMM := Lib.hid (fun n ns j => show Pl.mpMore s.ts (n + 1) ns j = if Pl.passes s.ts j [46] then (Pl.takeK s.ts 2 (j + 1)).then fun t k => Pl.mpMore s.ts n (ns ++ [Pl.mk t]) k else .ok ns j from rfl)
  have HTE := Lib.hid (fun j => show Pl.takeK s.ts 2 j = if (Pl.tkAt s.ts j).kind = 2 then .ok (Pl.tkAt s.ts j).text (j + 1) else .bad j from rfl)
  have HTL := Lib.hid (fun j => text_lens h.src j)
  have hmk : (Pl.mk [46] : ByteArray) = ⟨#[46]⟩ := rfl
  rw [hmk] at HPS
  clear hmk
  go_enter Tryz.func71, Tryz.ntmps71
  go_wp2_with fail
  refine (HTK.out _ _ h).mono ?_
  rintro e w1 ⟨ht, hf1⟩
  clear h
  have htk := HTE.out i
  by_cases hk : (Pl.tkAt s.ts i).kind = 2
  · rw [htk, if_pos hk] at ht HMP
    obtain ⟨rfl, hp1⟩ := ht
    rw [Pl.PR.then_ok] at HMP
    have htl := HTL.out i
    generalize Pl.mk (Pl.tkAt s.ts i).text = tt at *
    have HF1 := Lib.hid hf1
    have HB1 := Lib.hid (show Below w1.heap.size w1 (w1.alloc (.cells #[.string tt] 9)) from (Below.refl _ _).alloc (Nat.le_refl _) _)
    have HN0 := Lib.hid (show NamesAt (w1.alloc (.cells #[.string tt] 9)) w.heap.size (.slice (some ⟨w1.heap.size, 0, none⟩) 1 1) [tt] from ⟨World.ownsRow_lit (base := w.heap.size) (e := 9) (size := 1) w1 #[.string tt] 1 hf1.size (by unfold maxLen; omega) rfl, fun z hz => by simp at hz; subst hz; exact htl⟩)
    have HP1 := Lib.hid (hp1.below HB1.out)
    clear hf1 hp1 htl htk hk
    go_wp2_with fail
    go_loopg [3] (s.ts.length + 1) (fun gk v wr => ∃ (j : Nat) (ns : List ByteArray), PAt wr g s j ∧ Fr (· = g) (· = g) w wr ∧ NamesAt wr w.heap.size v ns ∧ r = Pl.mpMore s.ts gk ns j ∧ s.ts.length + 2 ≤ gk + j ∧ ns.length ≤ j)
    case atStart => exact ⟨i + 1, [tt], HP1.out, HF1.out.trans (fr_below HB1.out), HN0.out, HMP.out, by omega, by simp⟩
    case round =>
      obtain ⟨j, ns, hp, hf, hn, hr, hj, hnl⟩ := hrel
      have hjn := hp.inn
      have HP2 := Lib.hid hp
      have HF2 := Lib.hid hf
      have HN2 := Lib.hid hn
      have HRR := Lib.hid hr
      obtain ⟨G, hG⟩ : ∃ G, gk = G + 1 := ⟨gk - 1, by omega⟩
      clear hf hn hr
      go_wp2_with fail
      refine (HPS.out _ _ hp).mono ?_
      rintro e w2 ⟨rfl, hp2, hf2⟩
      have hmm := HMM.out G ns j
      have hrr := HRR.out
      rw [hG, hmm] at hrr
      generalize Pl.passes s.ts j [46] = pb at *
      clear hp hmm
      cases pb
      · have HR2 := Lib.hid (show r = .ok ns j from hrr)
        have HS := Lib.hid (HN2.out.keep HGL.out hf2).strs
        have HPE := Lib.hid (show PAt w2 g s j from hp2)
        have HFE := Lib.hid (HF2.out.trans hf2)
        clear hrr hp2 hf2 hG
        go_wp2
        go_ret
        unfold NamesOut
        rw [HR2.out]
        exact ⟨⟨_, rfl, HS.out, HPE.out⟩, HFE.out⟩
      · have HR2 := Lib.hid (show r = (Pl.takeK s.ts 2 (j + 1)).then fun t k => Pl.mpMore s.ts G (ns ++ [Pl.mk t]) k from hrr)
        have hp2' : PAt w2 g s (j + 1) := hp2
        have HF3 := Lib.hid (HF2.out.trans hf2)
        have HN3 := Lib.hid (HN2.out.keep HGL.out hf2)
        clear hrr hp2 hf2
        go_wp2_with fail
        refine (HTK.out _ _ hp2').mono ?_
        rintro e w3 ⟨ht, hf3⟩
        have hin3 := hp2'.inn
        clear hp2'
        have htk := HTE.out (j + 1)
        by_cases hk2 : (Pl.tkAt s.ts (j + 1)).kind = 2
        · rw [htk, if_pos hk2] at ht HR2
          obtain ⟨rfl, hp3⟩ := ht
          rw [Pl.PR.then_ok] at HR2
          have htl := HTL.out (j + 1)
          generalize Pl.mk (Pl.tkAt s.ts (j + 1)).text = zz at *
          have HZL := Lib.hid htl
          have HBA := Lib.hid (show Below w3.heap.size w3 (w3.alloc (.cells #[.string zz] 9)) from (Below.refl _ _).alloc (Nat.le_refl _) _)
          have HF4 := Lib.hid ((HF3.out.trans hf3).trans (fr_below HBA.out))
          have HN4 := Lib.hid ((HN3.out.keep HGL.out hf3).keep HGL.out (fr_below HBA.out))
          have HP4 := Lib.hid (hp3.below HBA.out)
          have HGJ := Lib.hid hG
          clear hf3 hp3 htl htk hk2 hG
          obtain ⟨nl, hnl2⟩ : ∃ nl, nl = ns.length := ⟨_, rfl⟩
          have HROW := Lib.hid (show (w3.alloc (.cells #[.string zz] 9)).ownsRow w.heap.size 9 1 u3 nl (ns.map Value.string) from by rw [hnl2]; exact HN4.out.row)
          have HNL := Lib.hid hnl2
          rw [← hnl2] at hnl
          clear hnl2
          go_wp2_with (at_builtin; refine wpList_append_own _ rfl _ _ 24 rfl w.heap.size 9 i9 (.string ⟨#[]⟩) 1 16 Tryz.underlying24 hi0 hz0 hz1 hz2 rfl (by decide) _ _ _ rfl HROW.out ⟨w3.heap.size, 0, none⟩ 1 1 [.string zz] rfl rfl ?c1 ?c2 ?c3 ?c4 ?c5 ?_)
          case c1 => exact World.news_of_block (cs := #[.string zz]) (t := 9) (fr := (0, 0)) (heap_alloc_new w3 _)
          case c2 => simp [Value.oneCell']
          case c3 => unfold maxLen; omega
          case c4 => omega
          case c5 => exact HF4.out.size
          intro v' w4 hown hgrow _
          have hob : ∀ k, u3.ownBlock = some k → w.heap.size ≤ k := fun k hk => (HROW.out.lt k hk).1
          have HN5 := Lib.hid (show NamesAt w4 w.heap.size v' (ns ++ [zz]) from ⟨by
            rw [List.length_append, List.map_append, ← HNL.out]
            exact hown, fun z hz => by
            rw [List.mem_append] at hz
            rcases hz with hz | hz
            · exact HN4.out.lens z hz
            · simp at hz; subst hz; exact HZL.out⟩)
          have HP5 := Lib.hid (HP4.out.grown hgrow (fun k hk => Nat.lt_of_lt_of_le HGL.out (hob k hk)))
          have HF5 := Lib.hid (fr_grown HF4.out hgrow hob)
          have HNN := Lib.hid (show (ns ++ [zz]).length ≤ j + 1 + 1 from by rw [List.length_append, ← HNL.out]; simp; omega)
          clear hown hgrow hob
          go_wp2
          go_roundg G
          case measure => have := HGJ.out; omega
          case rel => exact ⟨j + 1 + 1, ns ++ [zz], HP5.out, HF5.out, HN5.out, HR2.out, by have := HGJ.out; omega, HNN.out⟩
        · rw [htk, if_neg hk2] at ht HR2
          subst ht
          refine ⟨rfl, ?_⟩
          unfold NamesOut
          rw [HR2.out, Pl.PR.then_bad]
          exact ⟨rfl, HF3.out.trans hf3⟩
  · rw [htk, if_neg hk] at ht HMP
    subst ht
    refine ⟨rfl, ?_⟩
    unfold NamesOut
    rw [HMP.out, Pl.PR.then_bad]
    exact ⟨rfl, hf1⟩
end Go.Proofs.YtjedahcpkcgpeaaGreatDoor
