/-
  Walks of layer 3: the names of a node.
-/
import Derived.Test.YtkhpihacjhhklaaTd
import Derived.Deep.QuietTactic
import Derived.BigQuiet
namespace Go.Proofs.Ytkhpihacjhhklaa
open Go Go.RowKit
open Pl (Syn)
set_option linter.unusedSimpArgs false

def endFn (op : Int) : NameFn := if Pl.lowEnd op then lowFn else upFn
set_option maxHeartbeats 2000000 in
theorem pathEnd_any (op : Int) (w : World) : Calls Try.prog 72 #[.int .i64 op] w fun e w' => e = .returned (.func (.func (endFn op).fid) #[] #[]) ∧ w = w' := by
  have HL := Lib.hid (show (op = 2 ∨ op = 23 ∨ op = 66 ∨ op = 74) → (endFn op).fid = 68 from fun h => by unfold endFn Pl.lowEnd; rw [decide_eq_true h]; rfl)
  have HU := Lib.hid (show ¬ (op = 2 ∨ op = 23 ∨ op = 66 ∨ op = 74) → (endFn op).fid = 69 from fun h => by unfold endFn Pl.lowEnd; rw [decide_eq_false h]; rfl)
  generalize (endFn op).fid = f at *
  go_enter Try.func72, Try.ntmps72
  go_wp2
  all_goals
    go_ret
    (try simp only [beq_iff_eq, beq_eq_false_iff_ne] at *)
    first | exact ⟨by rw [HL.out (by omega)]; rfl, by first | rfl | trivial⟩ | exact ⟨by rw [HU.out (by omega)]; rfl, by first | rfl | trivial⟩
theorem endFn_G (op : Int) (zs : List ByteArray) : pathG (endFn op).p zs = Pl.pathOk (Pl.lowEnd op) zs := by
  rw [pathOk_G]
  unfold endFn
  cases Pl.lowEnd op <;> rfl
set_option maxRecDepth 100000 in
set_option maxHeartbeats 8000000 in
theorem namesFit_any (P : Nat → Prop) (op n : Int) (s : ByteArray) (names : List ByteArray) (nv lv : Value) (w : World) (hP : ∀ b, P b → b < w.heap.size) (h : StrSl w P nv names) :
    Calls Try.prog 63 #[.agg #[.int .i64 op, .int .i64 n, .string s, nv, lv]] w fun e w' => e = .returned (.bool (Pl.nam op names)) ∧ Below w.heap.size w w' := by
  have hb : Below w.heap.size w (w.alloc (.cells #[.int .i64 op, .int .i64 n, .string s, nv, lv] 25)) := (Below.refl _ _).alloc (Nat.le_refl _) _
  have h1 := h.keep (Same.of_below hb hP)
  have bx := blk_new w #[.int .i64 op, .int .i64 n, .string s, nv, lv] 25
  obtain ⟨na, nc, rfl, hnl⟩ := h.form
  unfold maxLen at hnl
  have HH := Lib.hid (fun W => hasPath_any op W)
  have HB := Lib.hid hb
  have x0 := bx.cell 0 _ rfl
  have x3 := bx.cell 3 _ rfl
  by_cases hp : Pl.hasPath op = true
  · have HN := Lib.hid (show Pl.nam op names = pathG (endFn op).p names from by unfold Pl.nam; rw [hp, if_pos rfl, endFn_G])
    have HPE := Lib.hid (fun W => pathEnd_any op W)
    have HIP := Lib.hid (fun q => isPath_any (endFn op) P _ _ _ (h1.keep (same_drewN _ _ q)))
    rw [hp] at HH
    generalize (endFn op).fid = fe at *
    generalize pathG (endFn op).p names = r at *
    generalize names.length = nn at *
    clear h h1 hb bx hp hP
    go_enter Try.func63, Try.ntmps63
    go_wp2_with fail
    refine (HH.out _).mono ?_
    rintro e w2 ⟨rfl, rfl⟩
    go_wp2
    go_quiet ((first | (go_at_call 72; exact Calls.quiet_of_same ((HPE.out _).mono fun _ _ ⟨he, hw⟩ => ⟨he, hw.symm⟩)) | (go_at_call 71; exact Calls.quiet_of_same ((HIP.out _).mono fun _ _ ⟨he, hw⟩ => ⟨he, hw.symm⟩))))
    go_wp2
    go_ret
    exact ⟨ret_bool HN.out.symm, below_drewN HB.out _⟩
  · have hp' : Pl.hasPath op = false := by simpa using hp
    have HN := Lib.hid (show Pl.nam op names = (if op = 42 then decide (1 ≤ names.length ∧ names.length ≤ 9) && names.all Pl.lowS else if op = 43 ∨ op = 44 ∨ op = 62 then Pl.params names else decide (names.length = 0)) from by unfold Pl.nam; rw [hp', if_neg (by decide)])
    rw [hp'] at HH
    have HLW := Lib.hid (allNames_any lowFn P _ _ _ h1)
    have HVR := Lib.hid (allNames_any varFn P _ _ _ h1)
    have HDF := Lib.hid (differ_any P _ _ _ (fun b hb' => Nat.lt_of_lt_of_le (hP b hb') hb.size) h1)
    have HPR := Lib.hid (show Pl.params names = (decide (names.length ≤ 4) && names.all Pl.varS && Pl.noTwin names) from rfl)
    rw [show lowFn.p = Pl.lowS from rfl, show lowFn.fid = 68 from rfl] at HLW
    rw [show varFn.p = Pl.varS from rfl, show varFn.fid = 67 from rfl] at HVR
    generalize names.all Pl.lowS = rl at *
    generalize names.all Pl.varS = rv at *
    generalize Pl.noTwin names = rd at *
    generalize Pl.params names = rp at *
    generalize Pl.nam op names = rn at *
    generalize names.length = nn at *
    clear h h1 hb bx hp hp' hP
    by_cases c1 : op = 42
    · have HN2 := Lib.hid (show rn = (decide (1 ≤ nn ∧ nn ≤ 9) && rl) from by rw [HN.out, if_pos c1])
      subst c1
      by_cases c2 : 1 ≤ nn ∧ nn ≤ 9
      · go_enter Try.func63, Try.ntmps63
        go_wp2_with fail
        refine (HH.out _).mono ?_
        rintro e w2 ⟨rfl, rfl⟩
        go_wp2_with fail
        refine HLW.out.mono ?_
        rintro e w2 ⟨rfl, rfl⟩
        go_wp2
        go_ret
        exact ⟨ret_bool (by rw [HN2.out, decide_eq_true c2]; rfl), HB.out⟩
      · have HN3 := Lib.hid (show rn = false from by rw [HN2.out, decide_eq_false c2]; rfl)
        by_cases c3 : nn = 0
        · subst c3
          go_enter Try.func63, Try.ntmps63
          go_wp2_with fail
          refine (HH.out _).mono ?_
          rintro e w2 ⟨rfl, rfl⟩
          go_wp2
          go_ret
          exact ⟨ret_bool HN3.out.symm, HB.out⟩
        · have q : decide ((nn : Int) ≤ 9) = false := by simp; omega
          go_enter Try.func63, Try.ntmps63
          go_wp2_with fail
          refine (HH.out _).mono ?_
          rintro e w2 ⟨rfl, rfl⟩
          go_wp2
          go_ret
          exact ⟨ret_bool HN3.out.symm, HB.out⟩
    · by_cases c4 : op = 43 ∨ op = 44 ∨ op = 62
      · have HN2 := Lib.hid (show rn = (decide (nn ≤ 4) && rv && rd) from by rw [HN.out, if_neg c1, if_pos c4, HPR.out])
        have c4' : (op == 43) = true ∨ ((op == 43) = false ∧ (op == 44) = true) ∨ ((op == 43) = false ∧ (op == 44) = false ∧ (op == 62) = true) := by simp; omega
        have c1' : (op == 42) = false := by simpa using c1
        clear c1 c4
        by_cases c5 : nn ≤ 4
        · have q : decide ((nn : Int) ≤ 4) = true := by simp; omega
          rw [decide_eq_true c5] at HN2
          rcases c4' with p1 | ⟨p0, p1⟩ | ⟨p00, p0, p1⟩
          all_goals
            cases rv
            · go_enter Try.func63, Try.ntmps63
              go_wp2_with fail
              refine (HH.out _).mono ?_
              rintro e w2 ⟨rfl, rfl⟩
              go_wp2_with fail
              refine HVR.out.mono ?_
              rintro e w2 ⟨rfl, rfl⟩
              go_wp2
              go_ret
              exact ⟨ret_bool (by rw [HN2.out]; rfl), HB.out⟩
            · go_enter Try.func63, Try.ntmps63
              go_wp2_with fail
              refine (HH.out _).mono ?_
              rintro e w2 ⟨rfl, rfl⟩
              go_wp2_with fail
              refine HVR.out.mono ?_
              rintro e w2 ⟨rfl, rfl⟩
              go_wp2_with fail
              refine HDF.out.mono ?_
              rintro e w2 ⟨rfl, hb2⟩
              have HB2 := Lib.hid (HB.out.trans (hb2.mono HB.out.size))
              clear hb2
              go_wp2
              go_ret
              exact ⟨ret_bool (by rw [HN2.out]; rfl), HB2.out⟩
        · have q : decide ((nn : Int) ≤ 4) = false := by simp; omega
          rw [decide_eq_false c5] at HN2
          rcases c4' with p1 | ⟨p0, p1⟩ | ⟨p00, p0, p1⟩
          all_goals
            go_enter Try.func63, Try.ntmps63
            go_wp2_with fail
            refine (HH.out _).mono ?_
            rintro e w2 ⟨rfl, rfl⟩
            go_wp2
            go_ret
            exact ⟨ret_bool (by rw [HN2.out]; rfl), HB.out⟩
      · have HN2 := Lib.hid (show rn = decide (nn = 0) from by rw [HN.out, if_neg c1, if_neg c4])
        have p1 : (op == 42) = false := by simpa using c1
        have p2 : (op == 43) = false := by simp; omega
        have p3 : (op == 44) = false := by simp; omega
        have p4 : (op == 62) = false := by simp; omega
        clear c1 c4
        by_cases c5 : nn = 0
        · subst c5
          go_enter Try.func63, Try.ntmps63
          go_wp2_with fail
          refine (HH.out _).mono ?_
          rintro e w2 ⟨rfl, rfl⟩
          go_wp2
          go_ret
          exact ⟨ret_bool HN2.out.symm, HB.out⟩
        · rw [decide_eq_false c5] at HN2
          have q : ((nn : Int) == 0) = false := by simp; omega
          go_enter Try.func63, Try.ntmps63
          go_wp2_with fail
          refine (HH.out _).mono ?_
          rintro e w2 ⟨rfl, rfl⟩
          go_wp2
          go_ret
          exact ⟨ret_bool HN2.out.symm, HB.out⟩
end Go.Proofs.Ytkhpihacjhhklaa
