/-
  Several texts in one (Tk Tl Tm Tn To Tp Tq Tr Ts).
-/
import Derived.Test.YtpkgiemdnfbopaaGreatMGe
namespace Go.Proofs.YtpkgiemdnfbopaaGreat
open Go Go.RowKit
open Pl (K Con)
set_option linter.unusedSimpArgs false
set_option linter.unusedVariables false

/-- the place as the reference says it -/
def posI (s : ByteArray) (zs : List ByteArray) : Int := match posB s zs with | some i => (i : Int) | none => -1
theorem posB_hit (s : ByteArray) : ∀ (zs : List ByteArray) (k : Nat) (hk : k < zs.length), zs[k] = s → (∀ j (hj : j < zs.length), j < k → zs[j] ≠ s) → posB s zs = some k := by
  intro zs
  induction zs with
  | nil => intro k hk; exact absurd hk (Nat.not_lt_zero _)
  | cons z r ih =>
    intro k hk he hm
    rw [posB]
    cases k with
    | zero =>
      have he : z = s := he
      rw [if_pos he]
    | succ k =>
      have h0 : z ≠ s := hm 0 (by simp) (by omega)
      have hk' : k < r.length := by simpa using hk
      rw [if_neg h0, ih k hk' (by simpa using he) (fun j hj hjk => by have := hm (j + 1) (by simpa using hj) (by omega); simpa using this)]
      rfl
theorem posB_miss (s : ByteArray) : ∀ (zs : List ByteArray), (∀ j (hj : j < zs.length), zs[j] ≠ s) → posB s zs = none := by
  intro zs
  induction zs with
  | nil => intro _; rfl
  | cons z r ih =>
    intro hm
    have h0 : z ≠ s := hm 0 (by simp)
    rw [posB, if_neg h0, ih (fun j hj => by have := hm (j + 1) (by simpa using hj); simpa using this)]
    rfl
set_option maxHeartbeats 1000000 in
theorem rfind9_any (P : Nat → Prop) (v : Value) (zs : List ByteArray) (x : ByteArray) (w : World) (h : StrSl w P v zs) :
    Calls Tryz.prog 124 #[v, .string x] w fun e w' => e = .returned (.int .i64 (posI x zs)) ∧ w = w' := by
  obtain ⟨a, c, rfl, h1, h2, -, -, h5⟩ := h
  have HC := Lib.hid (show ∀ (k : Nat) (hk : k < zs.length), ∃ b off, a = some ⟨b, off, none⟩ ∧ w.cell? ⟨b, off + k, none⟩ = some (.string zs[k]) from fun k hk => by
    rcases h5 with h5 | ⟨b, off, rfl, -, h8⟩
    · rw [h5] at hk; exact absurd hk (Nat.not_lt_zero _)
    · exact ⟨b, off, rfl, h8 k hk⟩)
  clear h5
  obtain ⟨n, hn⟩ : ∃ n, n = zs.length := ⟨_, rfl⟩
  have HN := Lib.hid hn
  rw [← hn] at h1 ⊢
  have hn63 : n ≤ 9223372036854775807 := by unfold maxLen at h2; omega
  clear hn h1 h2
  go_enter Tryz.func124, Tryz.ntmps124
  go_wp2
  go_loop [5] (fun i => ∃ k : Nat, k ≤ n ∧ i = .int .i64 k ∧ ∀ j (hj : j < zs.length), j < k → zs[j] ≠ x) (fun i => n - (intOf i).toNat)
  case atStart => exact ⟨0, by omega, rfl, fun j hj h => absurd h (Nat.not_lt_zero _)⟩
  case round =>
    obtain ⟨k, hk, rfl, hin⟩ := hrel
    have HI := Lib.hid hin
    clear hin
    by_cases hlt : k < n
    · have hkl : k < zs.length := by rw [← HN.out]; exact hlt
      obtain ⟨b, off, e, f0⟩ := HC.out k hkl
      subst e
      have HZ := Lib.hid (show ∀ z, z = zs[k] → z = zs[k] from fun z h => h)
      obtain ⟨z, hz⟩ : ∃ z, z = zs[k] := ⟨_, rfl⟩
      have HZ := Lib.hid hz
      rw [← hz] at f0
      clear hz
      by_cases he : z = x
      · have he2 : (z.toList == x.toList) = true := (Lib.bytes_beq_iff z x).2 he
        have HE := Lib.hid (show posI x zs = (k : Int) from by unfold posI; rw [posB_hit x zs k hkl (HZ.out.symm.trans he) HI.out])
        clear he
        go_wp2
        go_ret
        exact ⟨ret_int HE.out.symm, rfl⟩
      · have he2 : (z.toList == x.toList) = false := (Lib.bytes_beq_false_iff z x).2 he
        have HE := Lib.hid he
        clear he
        go_wp2
        go_round
        case rel => exact ⟨k + 1, by omega, by go_num, fun j hj hjk => by
          rcases Nat.lt_succ_iff_lt_or_eq.1 hjk with h | h
          · exact HI.out j hj h
          · subst h; rw [← HZ.out]; exact HE.out⟩
        case measure => simp [intOf]; omega
    · have HE := Lib.hid (show posI x zs = -1 from by unfold posI; rw [posB_miss x zs (fun j hj => HI.out j hj (by have := HN.out; omega))])
      go_wp2
      go_ret
      exact ⟨ret_int HE.out.symm, rfl⟩
end Go.Proofs.YtpkgiemdnfbopaaGreat
namespace Go.Proofs.YtpkgiemdnfbopaaGreat
open Go Go.RowKit
open Pl (K Con)
set_option linter.unusedSimpArgs false
set_option linter.unusedVariables false

set_option maxRecDepth 100000 in
set_option maxHeartbeats 4000000 in
theorem rbind_any (P : Nat → Prop) (names : List ByteArray) (hnl : names.length ≤ 100000) (t : Con) : Con.allB t = true → ∀ (d : Int) (w : World) (v xv : Value), (∀ q, P q → q < w.heap.size) → ConV w P t v → StrSl w P xv names → 0 ≤ d → d + t.depth ≤ 100000 →
    Calls Tryz.prog 77 #[v, xv, .int .i64 d] w (RcP P (Con.bindC names t d) w) := by
  induction t using Con.ind with
  | h t ih =>
  intro hall d w v xv hP ht hl hd0 hd1
  have hnode : Con.nodeB t = true := by rw [allB_eq, Bool.and_eq_true] at hall; exact hall.1
  have hnn := nodeB_n t hnode
  have hdpos := Con.depth_pos t
  have hdi : d ≤ 100000 := by omega
  have HIH := Lib.hid (fun (i : Nat) (hi : i < t.l.length) (g : Int) (W : World) (x : Value) (h1 : ∀ q, P q → q < W.heap.size) (h2 : ConV W P t.l[i] x) (h2' : StrSl W P xv names) (h3 : 0 ≤ g) (h4 : g ≤ d + 1) => ih t.l[i] (List.getElem_mem hi) (allB_part hall hi) g W x xv h1 h2 h2' h3 (by have := depth_part (List.getElem_mem hi); omega))
  have HCV := Lib.hid (fun W (hW : Same P w W) => ht.keep hW)
  have HCL := Lib.hid (fun W (hW : Same P w W) => hl.keep hW)
  have HP := Lib.hid hP
  obtain ⟨ka, kn, kc, na, nn, nc, la, ln, lc, rfl, -, -, hln⟩ := ht.shape
  have hlk := hl
  obtain ⟨ea, ec, rfl, hel, hem, -⟩ := hl
  have HLN := Lib.hid hln
  obtain ⟨m, hm⟩ : ∃ m, m = names.length := ⟨_, rfl⟩
  have hm63 : m ≤ 9223372036854775807 := by unfold maxLen at hem; omega
  obtain ⟨op, hop⟩ : ∃ op, op = t.op := ⟨_, rfl⟩
  obtain ⟨num, hnum⟩ : ∃ num, num = t.n := ⟨_, rfl⟩
  obtain ⟨s, hs⟩ : ∃ s, s = t.s := ⟨_, rfl⟩
  have HM := Lib.hid hm
  have hm9 := Lib.hid hm
  have hm64 : m ≤ 100000 := by omega
  have HSC := Lib.hid (show op = 2 → Con.bindC names t d = match posB s names with | some i => Con.var (d + ((m : Int) - 1 - (i : Nat))) | none => t from fun h => by rw [bindC_const _ _ t (by rw [← hop]; exact h), hs, hm]; cases posB t.s names <;> rfl)
  have HSV := Lib.hid (show op = 1 → Con.bindC names t d = if d ≤ num then Con.var (num + (m : Int)) else t from fun h => by rw [bindC_var _ _ t (by rw [← hop]; exact h), hnum, hm])
  have HSN := Lib.hid (show op ≠ 1 → op ≠ 2 → Con.bindC names t d = Con.inside t (t.l.map (fun x => Con.bindC names x (Con.deep t.op d))) from fun h h2 => bindC_node names d t (by rw [← hop]; exact h) (by rw [← hop]; exact h2))
  rw [← hm] at HCL HIH
  rw [← hop, ← hnum, ← hs] at HCV ⊢
  rw [← hm]
  rw [← hnum] at hnn
  have hllen := (node_facts t hnode).2.2
  clear hop hnum hs hln ih hnode hall hlk hm hem hel hd1 hdpos
  have hbx := boxN_new w 28 #[.int .i64 op, .int .i64 num, .string s, .slice ka kn kc, .slice na nn nc, .slice la ln lc]
  have hr0 := boxN_new (w.alloc (.cells #[.int .i64 op, .int .i64 num, .string s, .slice ka kn kc, .slice na nn nc, .slice la ln lc] 28)) 28 #[.int .i64 0, .int .i64 0, .string ⟨#[]⟩, .slice none 0 0, .slice none 0 0, .slice none 0 0]
  have hr1 := hr0.1
  rw [size_alloc] at hr1
  have HBX := Lib.hid (hbx.1.alloc (.cells #[.int .i64 0, .int .i64 0, .string ⟨#[]⟩, .slice none 0 0, .slice none 0 0, .slice none 0 0] 28))
  have HRX := Lib.hid hr1
  have HB := Lib.hid (belowStep hr0.2 hbx.2)
  clear hbx hr0 hr1 ht hP
  have HFI := Lib.hid (fun W (hW : Same P w W) => rfind9_any P _ names s W (HCL.out W hW))
  have HBB := Lib.hid (belowStep (boxN_new (w.alloc (.cells #[.int .i64 op, .int .i64 num, .string s, .slice ka kn kc, .slice na nn nc, .slice la ln lc] 28)) 28 #[.int .i64 0, .int .i64 0, .string ⟨#[]⟩, .slice none 0 0, .slice none 0 0, .slice none 0 0]).2 (boxN_new w 28 #[.int .i64 op, .int .i64 num, .string s, .slice ka kn kc, .slice na nn nc, .slice la ln lc]).2)
  by_cases h3 : op = 2
  · have q1 : (op == 2) = true := by rw [h3]; rfl
    have HV := Lib.hid (HSC.out h3)
    clear HSV HSN HSC HIH h3
    cases hp : posB s names with
    | some i =>
      have hpi : posI s names = (i : Int) := by unfold posI; rw [hp]
      obtain ⟨him, -⟩ := posB_some _ _ _ hp
      rw [hm9.out.symm] at him
      have HV2 := Lib.hid (show Con.bindC names t d = ⟨1, d + (m : Int) - 1 - (i : Int), ByteArray.empty, .mk [], [], []⟩ from by
        rw [HV.out, hp]
        show Con.var (d + ((m : Int) - 1 - (i : Nat))) = Con.var (d + (m : Int) - 1 - (i : Int))
        congr 1
        omega)
      rw [hpi] at HFI
      have w1' : wrap64 (d + (m : Int)) = d + (m : Int) := by rw [wrap64]; omega
      have w2' : wrap64 (d + (m : Int) - 1) = d + (m : Int) - 1 := by rw [wrap64]; omega
      have w3' : wrap64 (d + (m : Int) - 1 - (i : Int)) = d + (m : Int) - 1 - (i : Int) := by rw [wrap64]; omega
      clear hp hpi
      have hr := boxN_new (w.alloc (.cells #[.int .i64 op, .int .i64 num, .string s, .slice ka kn kc, .slice na nn nc, .slice la ln lc] 28)) 28 #[.int .i64 1, .int .i64 (d + (m : Int) - 1 - (i : Int)), .string ⟨#[]⟩, .slice none 0 0, .slice none 0 0, .slice none 0 0]
      have hr1 := hr.1
      rw [size_alloc] at hr1
      have d0 := hr1.cell 0 (.int .i64 1) rfl
      have d1 := hr1.cell 1 (.int .i64 (d + (m : Int) - 1 - (i : Int))) rfl
      have d2 := hr1.cell 2 (.string ⟨#[]⟩) rfl
      have d3 := hr1.cell 3 (.slice none 0 0) rfl
      have d4 := hr1.cell 4 (.slice none 0 0) rfl
      have d5 := hr1.cell 5 (.slice none 0 0) rfl
      have HB9 := Lib.hid (belowStep hr.2 (boxN_new w 28 #[.int .i64 op, .int .i64 num, .string s, .slice ka kn kc, .slice na nn nc, .slice la ln lc]).2)
      clear hr hr1 HV
      have c0 := HBX.out.cell 0 (.int .i64 op) rfl
      have c1 := HBX.out.cell 1 (.int .i64 num) rfl
      have c2 := HBX.out.cell 2 (.string s) rfl
      have c3 := HBX.out.cell 3 (.slice ka kn kc) rfl
      have c4 := HBX.out.cell 4 (.slice na nn nc) rfl
      have c5 := HBX.out.cell 5 (.slice la ln lc) rfl
      go_enter Tryz.func77, Tryz.ntmps77
      go_wp2_with fail
      refine (HFI.out _ (Same.of_below (HBB.out) HP.out)).mono ?_
      rintro e w8 ⟨rfl, rfl⟩
      go_wp2
      refine bodyPost_ret (v := .agg #[.int .i64 1, .int .i64 (d + (m : Int) - 1 - (i : Int)), .string ⟨#[]⟩, .slice none 0 0, .slice none 0 0, .slice none 0 0]) (by simp [results, Tryz.results77, go_sem, d0, d1, d2, d3, d4, d5]) rfl ?_
      rw [HV2.out]
      exact ⟨⟨_, rfl, conV_lf 1 (d + (m : Int) - 1 - (i : Int)) _ _⟩, HB9.out⟩
    | none =>
      have hpi : posI s names = -1 := by unfold posI; rw [hp]
      have HV2 := Lib.hid (show Con.bindC names t d = t from by rw [HV.out, hp])
      rw [hpi] at HFI
      clear hp hpi
      have hr := boxN_new (w.alloc (.cells #[.int .i64 op, .int .i64 num, .string s, .slice ka kn kc, .slice na nn nc, .slice la ln lc] 28)) 28 #[.int .i64 op, .int .i64 num, .string s, .slice ka kn kc, .slice na nn nc, .slice la ln lc]
      have hr1 := hr.1
      rw [size_alloc] at hr1
      have d0 := hr1.cell 0 (.int .i64 op) rfl
      have d1 := hr1.cell 1 (.int .i64 num) rfl
      have d2 := hr1.cell 2 (.string s) rfl
      have d3 := hr1.cell 3 (.slice ka kn kc) rfl
      have d4 := hr1.cell 4 (.slice na nn nc) rfl
      have d5 := hr1.cell 5 (.slice la ln lc) rfl
      have HB9 := Lib.hid (belowStep hr.2 (boxN_new w 28 #[.int .i64 op, .int .i64 num, .string s, .slice ka kn kc, .slice na nn nc, .slice la ln lc]).2)
      clear hr hr1 HV
      have c0 := HBX.out.cell 0 (.int .i64 op) rfl
      have c1 := HBX.out.cell 1 (.int .i64 num) rfl
      have c2 := HBX.out.cell 2 (.string s) rfl
      have c3 := HBX.out.cell 3 (.slice ka kn kc) rfl
      have c4 := HBX.out.cell 4 (.slice na nn nc) rfl
      have c5 := HBX.out.cell 5 (.slice la ln lc) rfl
      go_enter Tryz.func77, Tryz.ntmps77
      go_wp2_with fail
      refine (HFI.out _ (Same.of_below (HBB.out) HP.out)).mono ?_
      rintro e w8 ⟨rfl, rfl⟩
      go_wp2
      refine bodyPost_ret (v := .agg #[.int .i64 op, .int .i64 num, .string s, .slice ka kn kc, .slice na nn nc, .slice la ln lc]) (by simp [results, Tryz.results77, go_sem, d0, d1, d2, d3, d4, d5]) rfl ?_
      rw [HV2.out]
      exact ⟨⟨_, rfl, (HCV.out _ (fun q hq => HB9.out.block q (HP.out q hq))).mono (fun q hq => .inl hq)⟩, HB9.out⟩
  have q0 : (op == 2) = false := by simpa using h3
  by_cases h1 : op = 1
  · have q1 : (op == 1) = true := by rw [h1]; rfl
    have HV := Lib.hid (HSV.out h1)
    clear HSV HSN HSC HIH h1 HFI
    by_cases h2 : d ≤ num
    · have q2 : decide (d ≤ num) = true := decide_eq_true h2
      have HV2 := Lib.hid (show Con.bindC names t d = ⟨1, num + (m : Int), ByteArray.empty, .mk [], [], []⟩ from by rw [HV.out, if_pos h2]; rfl)
      have w1' : wrap64 (num + (m : Int)) = num + (m : Int) := by rw [wrap64]; omega
      have hr := boxN_new (w.alloc (.cells #[.int .i64 op, .int .i64 num, .string s, .slice ka kn kc, .slice na nn nc, .slice la ln lc] 28)) 28 #[.int .i64 1, .int .i64 (num + (m : Int)), .string ⟨#[]⟩, .slice none 0 0, .slice none 0 0, .slice none 0 0]
      have hr1 := hr.1
      rw [size_alloc] at hr1
      have d0 := hr1.cell 0 (.int .i64 1) rfl
      have d1 := hr1.cell 1 (.int .i64 (num + (m : Int))) rfl
      have d2 := hr1.cell 2 (.string ⟨#[]⟩) rfl
      have d3 := hr1.cell 3 (.slice none 0 0) rfl
      have d4 := hr1.cell 4 (.slice none 0 0) rfl
      have d5 := hr1.cell 5 (.slice none 0 0) rfl
      have HB9 := Lib.hid (belowStep hr.2 (boxN_new w 28 #[.int .i64 op, .int .i64 num, .string s, .slice ka kn kc, .slice na nn nc, .slice la ln lc]).2)
      clear hr hr1 HV
      have c0 := HBX.out.cell 0 (.int .i64 op) rfl
      have c1 := HBX.out.cell 1 (.int .i64 num) rfl
      have c2 := HBX.out.cell 2 (.string s) rfl
      have c3 := HBX.out.cell 3 (.slice ka kn kc) rfl
      have c4 := HBX.out.cell 4 (.slice na nn nc) rfl
      have c5 := HBX.out.cell 5 (.slice la ln lc) rfl
      go_enter Tryz.func77, Tryz.ntmps77
      go_wp2
      refine bodyPost_ret (v := .agg #[.int .i64 1, .int .i64 (num + (m : Int)), .string ⟨#[]⟩, .slice none 0 0, .slice none 0 0, .slice none 0 0]) (by simp [results, Tryz.results77, go_sem, d0, d1, d2, d3, d4, d5]) rfl ?_
      rw [HV2.out]
      exact ⟨⟨_, rfl, conV_lf 1 (num + (m : Int)) _ _⟩, HB9.out⟩
    · have q2 : decide (d ≤ num) = false := decide_eq_false h2
      have HV2 := Lib.hid (show Con.bindC names t d = t from by rw [HV.out, if_neg h2])
      have hr := boxN_new (w.alloc (.cells #[.int .i64 op, .int .i64 num, .string s, .slice ka kn kc, .slice na nn nc, .slice la ln lc] 28)) 28 #[.int .i64 op, .int .i64 num, .string s, .slice ka kn kc, .slice na nn nc, .slice la ln lc]
      have hr1 := hr.1
      rw [size_alloc] at hr1
      have d0 := hr1.cell 0 (.int .i64 op) rfl
      have d1 := hr1.cell 1 (.int .i64 num) rfl
      have d2 := hr1.cell 2 (.string s) rfl
      have d3 := hr1.cell 3 (.slice ka kn kc) rfl
      have d4 := hr1.cell 4 (.slice na nn nc) rfl
      have d5 := hr1.cell 5 (.slice la ln lc) rfl
      have HB9 := Lib.hid (belowStep hr.2 (boxN_new w 28 #[.int .i64 op, .int .i64 num, .string s, .slice ka kn kc, .slice na nn nc, .slice la ln lc]).2)
      clear hr hr1 HV
      have c0 := HBX.out.cell 0 (.int .i64 op) rfl
      have c1 := HBX.out.cell 1 (.int .i64 num) rfl
      have c2 := HBX.out.cell 2 (.string s) rfl
      have c3 := HBX.out.cell 3 (.slice ka kn kc) rfl
      have c4 := HBX.out.cell 4 (.slice na nn nc) rfl
      have c5 := HBX.out.cell 5 (.slice la ln lc) rfl
      go_enter Tryz.func77, Tryz.ntmps77
      go_wp2
      refine bodyPost_ret (v := .agg #[.int .i64 op, .int .i64 num, .string s, .slice ka kn kc, .slice na nn nc, .slice la ln lc]) (by simp [results, Tryz.results77, go_sem, d0, d1, d2, d3, d4, d5]) rfl ?_
      rw [HV2.out]
      exact ⟨⟨_, rfl, (HCV.out _ (fun q hq => HB9.out.block q (HP.out q hq))).mono (fun q hq => .inl hq)⟩, HB9.out⟩
  have q1 : (op == 1) = false := by simpa using h1
  have HV := Lib.hid (HSN.out h1 h3)
  clear HSV HSN HSC HFI HBB
  have c0 := HBX.out.cell 0 (.int .i64 op) rfl
  have c1 := HBX.out.cell 1 (.int .i64 num) rfl
  have c2 := HBX.out.cell 2 (.string s) rfl
  have c3 := HBX.out.cell 3 (.slice ka kn kc) rfl
  have c4 := HBX.out.cell 4 (.slice na nn nc) rfl
  have c5 := HBX.out.cell 5 (.slice la ln lc) rfl
  go_enter Tryz.func77, Tryz.ntmps77
  go_upto_region 1 with fail
  generalize hw1 : (w.alloc (.cells #[.int .i64 op, .int .i64 num, .string s, .slice ka kn kc, .slice na nn nc, .slice la ln lc] 28)).alloc (.cells #[.int .i64 0, .int .i64 0, .string ⟨#[]⟩, .slice none 0 0, .slice none 0 0, .slice none 0 0] 28) = w1 at *
  have HSZ := Lib.hid (show w1.heap.size = w.heap.size + 2 from by rw [← hw1, size_alloc, size_alloc])
  clear hw1
  go_upto_region 12 with fail
  clear c0 c1 c2 c3 c4 c5 q1 q0
  obtain ⟨dp, hdp⟩ : ∃ dp, dp = Con.deep t.op d := ⟨_, rfl⟩
  have hdp2 : 0 ≤ dp ∧ dp ≤ d + 1 := by have := Con.deep_le t.op d; omega
  have HDP := Lib.hid (fun W (hW : Same P w W) => (rdeep_any P t d W (.agg #[.int .i64 op, .int .i64 num, .string s, .slice ka kn kc, .slice na nn nc, .slice la ln lc]) (HCV.out W hW) (by omega) (by omega)))
  rw [← hdp] at HDP
  rw [← hdp] at HV
  clear hdp
  obtain ⟨F, hF⟩ : ∃ F : Con → Con, F = fun x => Con.bindC names x dp := ⟨_, rfl⟩
  have HV2 := Lib.hid (show Con.bindC names t d = Con.inside t (t.l.map F) from by rw [HV.out, hF])
  replace HIH := Lib.hid (fun (i : Nat) (hi : i < t.l.length) (W : World) (x : Value) (h1 : ∀ q, P q → q < W.heap.size) (h2 : ConV W P t.l[i] x) (h2' : StrSl W P (.slice ea m ec) names) => (show Calls Tryz.prog 77 #[x, .slice ea m ec, .int .i64 dp] W (RcP P (F t.l[i]) W) from by rw [hF]; exact HIH.out i hi dp W x h1 h2 h2' hdp2.1 hdp2.2))
  clear HV hF
  obtain ⟨iC, ci0, ci1, ci2, ci3⟩ := info_parts infoCon
  go_loopg [8, 9] (ln + 1) (fun gk sl i wr => ∃ (k : Nat) (us : List Value), k ≤ ln ∧ i = .int .i64 k ∧ gk = ln + 1 - k ∧ CB P w1.heap.size wr ((t.l.take k).map F) us sl ∧ Below w1.heap.size w1 wr)
  case atStart => exact ⟨0, [], Nat.zero_le _, rfl, by omega, by rw [List.take_zero]; exact CB.nil _ _ _, Below.refl _ _⟩
  case round =>
    obtain ⟨k, us, hk, rfl, hgk, hcb, hbw⟩ := hrel
    have HCB := Lib.hid hcb
    have HBW := Lib.hid hbw
    replace HBX := Lib.hid (HBX.out.of_eq (hbw.block _ HBX.out.lt))
    replace HRX := Lib.hid (HRX.out.of_eq (hbw.block _ HRX.out.lt))
    have HPR := Lib.hid (fun q (hq : P q) => (show q < wr.heap.size from Nat.lt_of_lt_of_le (HP.out q hq) (Nat.le_trans HB.out.size hbw.size)))
    have HSR := Lib.hid (show Same P w wr from fun q hq => (hbw.block q (by have := HP.out q hq; have := HSZ.out; omega)).trans (HB.out.block q (HP.out q hq)))
    clear hcb hbw
    by_cases hlt : k < ln
    · have hkl : k < t.l.length := by rw [← HLN.out]; exact hlt
      have q5 : decide ((k : Int) < (ln : Int)) = true := decide_eq_true (by omega)
      have q6 : decide ((k : Int) < 0) = false := decide_eq_false (by omega)
      have q7 : decide ((ln : Int) ≤ (k : Int)) = false := decide_eq_false (by omega)
      obtain ⟨eb, off, c', ya, yn, yc, za, zn, zc, pa, pn, pc, e, hpb, f0, f1, f2, f3, f4, f5, hx⟩ := (con_list (HCV.out wr HSR.out)).part k hkl
      injection e with e1 e2 e3
      subst e1 e3
      clear e2
      have HSF := Lib.hid (fun W (hW : Below wr.heap.size wr W) => HIH.out k hkl W _ (fun q hq => Nat.lt_of_lt_of_le (HPR.out q hq) hW.size) (hx.keep (Same.of_below hW HPR.out)) (HCL.out W (fun q hq => (hW.block q (HPR.out q hq)).trans (HSR.out q hq))))
      have HTK := Lib.hid (show (t.l.take (k + 1)).map F = (t.l.take k).map F ++ [F t.l[k]] from by rw [List.take_succ_eq_append_getElem hkl, List.map_append]; rfl)
      obtain ⟨u, hu⟩ : ∃ u, u = t.l[k] := ⟨_, rfl⟩
      rw [← hu] at HSF HTK f0 f1 f2
      clear hx hu
      obtain ⟨op2, hop2⟩ : ∃ op2, op2 = u.op := ⟨_, rfl⟩
      obtain ⟨num2, hnum2⟩ : ∃ num2, num2 = u.n := ⟨_, rfl⟩
      obtain ⟨s2, hs2⟩ : ∃ s2, s2 = u.s := ⟨_, rfl⟩
      rw [← hop2] at f0 HSF
      rw [← hnum2] at f1 HSF
      rw [← hs2] at f2 HSF
      clear hop2 hnum2 hs2
      have hLk : k = ((t.l.take k).map F).length := by rw [List.length_map, List.length_take]; omega
      obtain ⟨L, hL⟩ : ∃ L, L = (t.l.take k).map F := ⟨_, rfl⟩
      rw [← hL] at HTK HCB hLk
      have HLK := Lib.hid hLk
      clear hLk hL
      obtain ⟨sa, sc, hsv⟩ := row_form6 HCB.out.row
      subst hsv
      rw [← HLK.out] at HCB ⊢
      have HEL := Lib.hid (show ∀ W : World, (∀ q, P q → W.heap[q]? = wr.heap[q]?) → W.cell? ⟨eb, off + k * 6, none⟩ = some (.int .i64 op2) ∧ W.cell? ⟨eb, off + k * 6 + 1, none⟩ = some (.int .i64 num2) ∧ W.cell? ⟨eb, off + k * 6 + 2, none⟩ = some (.string s2) ∧ W.cell? ⟨eb, off + k * 6 + 3, none⟩ = some (.slice ya yn yc) ∧ W.cell? ⟨eb, off + k * 6 + 4, none⟩ = some (.slice za zn zc) ∧ W.cell? ⟨eb, off + k * 6 + 5, none⟩ = some (.slice pa pn pc) from fun W hW => by
        have e := hW eb hpb
        exact ⟨(cell_eq9 e).trans f0, (cell_eq9 e).trans f1, (cell_eq9 e).trans f2, (cell_eq9 e).trans f3, (cell_eq9 e).trans f4, (cell_eq9 e).trans f5⟩)
      have HLOW := Lib.hid HCB.out.low
      have HSS := Lib.hid (show ∀ W : World, Blk W w.heap.size 28 #[.int .i64 op, .int .i64 num, .string s, .slice ka kn kc, .slice na nn nc, .slice (some ⟨eb, off, none⟩) ln lc] → (∀ q, P q → W.heap[q]? = wr.heap[q]?) → (fun W : World => W.cell? ⟨w.heap.size, 0, none⟩ = some (.int .i64 op) ∧ W.cell? ⟨w.heap.size, 1, none⟩ = some (.int .i64 num) ∧ W.cell? ⟨w.heap.size, 2, none⟩ = some (.string s) ∧ W.cell? ⟨w.heap.size, 3, none⟩ = some (.slice ka kn kc) ∧ W.cell? ⟨w.heap.size, 4, none⟩ = some (.slice na nn nc) ∧ W.cell? ⟨w.heap.size, 5, none⟩ = some (.slice (some ⟨eb, off, none⟩) ln lc) ∧ W.cell? ⟨eb, off + k * 6, none⟩ = some (.int .i64 op2) ∧ W.cell? ⟨eb, off + k * 6 + 1, none⟩ = some (.int .i64 num2) ∧ W.cell? ⟨eb, off + k * 6 + 2, none⟩ = some (.string s2) ∧ W.cell? ⟨eb, off + k * 6 + 3, none⟩ = some (.slice ya yn yc) ∧ W.cell? ⟨eb, off + k * 6 + 4, none⟩ = some (.slice za zn zc) ∧ W.cell? ⟨eb, off + k * 6 + 5, none⟩ = some (.slice pa pn pc)) W from fun W h1 h2 => ⟨h1.cell 0 _ rfl, h1.cell 1 _ rfl, h1.cell 2 _ rfl, h1.cell 3 _ rfl, h1.cell 4 _ rfl, h1.cell 5 _ rfl, HEL.out W h2⟩)
      have HKP := Lib.hid (fun W (hW : Below wr.heap.size wr W) => HSS.out W (HBX.out.of_eq (hW.block _ HBX.out.lt)) (fun q hq => hW.block q (HPR.out q hq)))
      have HKG := Lib.hid (fun ws x0 x1 x2 x3 x4 x5 w8 (hW : Below wr.heap.size wr ws) (hg : (ws.alloc (.cells #[x0, x1, x2, x3, x4, x5] 28)).grownBy w8 (Value.slice sa k sc).ownBlock) => HSS.out w8
        (grown_block ((HBX.out.of_eq (hW.block _ HBX.out.lt)).alloc _) hg (fun e => by have := (HLOW.out _ e).1; have := HSZ.out; omega))
        (fun q hq => ((hg.block q (by rw [size_alloc]; have := HPR.out q hq; have := hW.size; omega) (fun e => by have := (HLOW.out _ e.symm).1; have := HP.out q hq; have := HSZ.out; omega)).trans (Below.heap_alloc ws _ q (Nat.lt_of_lt_of_le (HPR.out q hq) hW.size))).trans (hW.block q (HPR.out q hq))))
      simp only at HKP HKG
      have HALC := Lib.hid (fun W o (hW : Below wr.heap.size wr W) => (hW.alloc hW.size o))
      have HD0 := Lib.hid (Below.refl wr.heap.size wr).drew
      have HDQ := Lib.hid (fun W (hW : Below wr.heap.size wr W) => HDP.out W (fun q hq => (hW.block q (HPR.out q hq)).trans (HSR.out q hq)))
      have HS7 := Lib.hid (fun ws x0 x1 x2 x3 x4 x5 (hW : Below wr.heap.size wr ws) => (show (ws.alloc (.cells #[x0, x1, x2, x3, x4, x5] 28)).ownsRow w1.heap.size 28 6 (.slice sa k sc) k us ∧ (∀ j u, [x0, x1, x2, x3, x4, x5][j]? = some u → (ws.alloc (.cells #[x0, x1, x2, x3, x4, x5] 28)).cell? ((⟨ws.heap.size, 0, none⟩ : Addr).add j) = some u) ∧ (ws.alloc (.cells #[x0, x1, x2, x3, x4, x5] 28)).heap.size = ws.heap.size + 1 from by
        have h := (HCB.out.below HPR.out hW).row
        rw [← HLK.out] at h
        exact ⟨h.alloc _, World.news_of_block (cs := #[x0, x1, x2, x3, x4, x5]) (t := 28) (fr := (0, 0)) (boxN_new ws 28 #[x0, x1, x2, x3, x4, x5]).1, size_alloc _ _⟩))
      have hwb : w1.heap.size ≤ wr.heap.size := HBW.out.size
      clear f0 f1 f2 f3 f4 f5 hpb HEL HSS
      have c0 := HBX.out.cell 0 (.int .i64 op) rfl
      have c1 := HBX.out.cell 1 (.int .i64 num) rfl
      have c2 := HBX.out.cell 2 (.string s) rfl
      have c3 := HBX.out.cell 3 (.slice ka kn kc) rfl
      have c4 := HBX.out.cell 4 (.slice na nn nc) rfl
      have c5 := HBX.out.cell 5 (.slice (some ⟨eb, off, none⟩) ln lc) rfl
      go_wp2_with fail
      clear c0 c1 c2 c3 c4 c5
      go_region_held3 (fun W => W.cell? ⟨w.heap.size, 0, none⟩ = some (.int .i64 op) ∧ W.cell? ⟨w.heap.size, 1, none⟩ = some (.int .i64 num) ∧ W.cell? ⟨w.heap.size, 2, none⟩ = some (.string s) ∧ W.cell? ⟨w.heap.size, 3, none⟩ = some (.slice ka kn kc) ∧ W.cell? ⟨w.heap.size, 4, none⟩ = some (.slice na nn nc) ∧ W.cell? ⟨w.heap.size, 5, none⟩ = some (.slice (some ⟨eb, off, none⟩) ln lc) ∧ W.cell? ⟨eb, off + k * 6, none⟩ = some (.int .i64 op2) ∧ W.cell? ⟨eb, off + k * 6 + 1, none⟩ = some (.int .i64 num2) ∧ W.cell? ⟨eb, off + k * 6 + 2, none⟩ = some (.string s2) ∧ W.cell? ⟨eb, off + k * 6 + 3, none⟩ = some (.slice ya yn yc) ∧ W.cell? ⟨eb, off + k * 6 + 4, none⟩ = some (.slice za zn zc) ∧ W.cell? ⟨eb, off + k * 6 + 5, none⟩ = some (.slice pa pn pc))
        (first | (with_reducible exact HKP.out _ HD0.out) | (with_reducible exact HKP.out _ (by assumption)) | (with_reducible exact HKP.out _ (HALC.out _ _ (by assumption))) | (with_reducible exact HKG.out _ _ _ _ _ _ _ _ (by assumption) (by assumption)))
        (first
        | (go_at_call 125; (with_reducible refine (HDQ.out _ (by first | exact HD0.out | assumption)).mono ?_); rintro e wd ⟨rfl, hbd⟩; have hbd2 := belowStep (a := wr) hbd (by first | exact HD0.out | assumption))
        | (go_at_call 77; (with_reducible refine (HSF.out _ (by assumption)).mono ?_); rintro e ws ⟨⟨yv, rfl, hy⟩, hbs⟩; have hbs2 := belowStep (a := wr) hbs (by assumption); obtain ⟨ua, un, uc, va, vn, vc, xa, xn, xc, hyv, -, -, -⟩ := hy.shape; subst hyv; obtain ⟨hrow7, hnew7, hsz7⟩ := HS7.out ws (.int .i64 (F u).op) (.int .i64 (F u).n) (.string (F u).s) (.slice ua un uc) (.slice va vn vc) (.slice xa xn xc) hbs2; have hws := hbs2.size)
        | (refine step_append_lies _ rfl (.tmp 49) (.tmp 60) 26 rfl w1.heap.size 28 iC (.agg #[.int .i64 0, .int .i64 0, .string ByteArray.empty, .slice none 0 0, .slice none 0 0, .slice none 0 0]) 6 104 Tryz.underlying26 ci0 ci1 ci2 ci3 rfl (by decide) (.slice sa k sc) k us (by simp [Act.eval, Act.put]) hrow7 ⟨ws.heap.size, 0, none⟩ 1 1 [.int .i64 (F u).op, .int .i64 (F u).n, .string (F u).s, .slice ua un uc, .slice va vn vc, .slice xa xn xc] (by simp [Act.eval, Act.put]) rfl hnew7 (by simp [Value.oneCell']) (by decide) (by unfold maxLen; omega) (by omega) (by rw [hsz7]; omega) (ws.heap.size + 1) hsz7 ?_; intro gg cap w8 hown hgrow hat hlt8))
      have hcb2 := HCB.out.below HPR.out hbs2
      have hlow := HLOW.out
      have hwd := hbd2.size
      have HCB2 := Lib.hid (hcb2.push HLK.out (fun q hq => Nat.lt_of_lt_of_le (HPR.out q hq) hbs2.size) hy (fun q hq => ⟨by
        rcases hq with hq | hq
        · exact .inl hq
        · exact .inr ⟨by omega, hq.2⟩, fun e => by
        have h1 := hlow q e
        rcases hq with hq | hq
        · have := HP.out q hq; have := HSZ.out; omega
        · have := hq.1; omega⟩) hown hgrow hat)
      have HBW2 := Lib.hid (((belowStep hbs2 HBW.out).alloc (by omega) (.cells #[.int .i64 (F u).op, .int .i64 (F u).n, .string (F u).s, .slice ua un uc, .slice va vn vc, .slice xa xn xc] 28)).grown hgrow (by rw [hsz7]; omega) (fun j hj => (hlow j hj).1))
      rw [← HTK.out] at HCB2
      clear hcb2 hlow hwd hy hown hgrow hat hlt8 hrow7 hnew7 hsz7 hws hbs hbs2 hbd hbd2 HKP HKG HALC HD0 HDQ HS7 HSF HTK HLOW HCB HLK
      go_wp2
      go_roundg (gk - 1)
      case measure => omega
      case rel => exact ⟨k + 1, _, by omega, by go_num, by omega, HCB2.out, HBW2.out⟩
    · have hkn : ln = k := by omega
      subst hkn
      have q5 : decide ((ln : Int) < (ln : Int)) = false := decide_eq_false (by omega)
      have hta : t.l.take ln = t.l := List.take_of_length_le (by rw [HLN.out]; exact Nat.le_refl _)
      rw [hta] at HCB
      clear hta
      obtain ⟨L, hL⟩ : ∃ L, L = t.l.map F := ⟨_, rfl⟩
      rw [← hL] at HCB HV2
      clear hL
      obtain ⟨sa, sc, hsv⟩ := row_form6 HCB.out.row
      subst hsv
      have hcl := HCB.out.cons (S := fun q => P q ∨ (w1.heap.size ≤ q ∧ q < wr.heap.size)) (fun q hq => .inl hq) (fun q h1 h2 => .inr ⟨h1, h2⟩)
      have HIN := Lib.hid (rinside_any (fun q => P q ∨ (w1.heap.size ≤ q ∧ q < wr.heap.size)) t L wr (.agg #[.int .i64 op, .int .i64 num, .string s, .slice ka kn kc, .slice na nn nc, .slice la ln lc]) (.slice sa L.length sc) (fun q hq => by
        rcases hq with hq | hq
        · exact HPR.out q hq
        · exact hq.2) ((HCV.out wr HSR.out).mono (fun q hq => .inl hq)) hcl)
      rw [← HV2.out] at HIN
      generalize L.length = sn at *
      have HBR := Lib.hid (show Below w.heap.size w wr from ⟨HBW.out.os.trans HB.out.os, HBW.out.tape.trans HB.out.tape, HBW.out.output.trans HB.out.output, Nat.le_trans HB.out.size HBW.out.size, fun q hq => (HBW.out.block q (by have := HSZ.out; omega)).trans (HB.out.block q hq)⟩)
      have HWB := Lib.hid (show w.heap.size + 2 ≤ wr.heap.size from by have := HBW.out.size; have := HSZ.out; omega)
      clear hcl HCB HV2
      have c0 := HBX.out.cell 0 (.int .i64 op) rfl
      have c1 := HBX.out.cell 1 (.int .i64 num) rfl
      have c2 := HBX.out.cell 2 (.string s) rfl
      have c3 := HBX.out.cell 3 (.slice ka kn kc) rfl
      have c4 := HBX.out.cell 4 (.slice na nn nc) rfl
      have c5 := HBX.out.cell 5 (.slice la ln lc) rfl
      go_wp2_with fail
      clear c0 c1 c2 c3 c4 c5
      refine HIN.out.mono ?_
      rintro e wq ⟨⟨yv, rfl, hy⟩, hbq⟩
      obtain ⟨ua, un, uc, va, vn, vc, xa, xn, xc, hyv, -, -, -⟩ := hy.shape
      subst hyv
      generalize Con.bindC names t d = z at *
      have hzr := HRX.out.of_eq (hbq.block _ HRX.out.lt)
      have t0 := hzr.thaw 0
      have t1 := hzr.thaw 1
      have t2 := hzr.thaw 2
      have t3 := hzr.thaw 3
      have t4 := hzr.thaw 4
      have t5 := hzr.thaw 5
      have r0 := hzr.cell 0 (.int .i64 0) rfl
      have r1 := hzr.cell 1 (.int .i64 0) rfl
      have r2 := hzr.cell 2 (.string ⟨#[]⟩) rfl
      have r3 := hzr.cell 3 (.slice none 0 0) rfl
      have r4 := hzr.cell 4 (.slice none 0 0) rfl
      have r5 := hzr.cell 5 (.slice none 0 0) rfl
      have hz := store6_blk hzr 0 (.int .i64 z.op) (.int .i64 z.n) (.string z.s) (.slice ua un uc) (.slice va vn vc) (.slice xa xn xc)
      rw [put6_all] at hz
      have HE := Lib.hid (show RcP P z w (.returned (.agg #[.int .i64 z.op, .int .i64 z.n, .string z.s, .slice ua un uc, .slice va vn vc, .slice xa xn xc])) (store6 wq (w.heap.size + 1) 0 (.int .i64 z.op) (.int .i64 z.n) (.string z.s) (.slice ua un uc) (.slice va vn vc) (.slice xa xn xc)) from
        ⟨⟨_, rfl, (hy.keep (fun q hq => store6_other _ _ _ _ _ _ _ _ _ q (by
          have := HSZ.out
          rcases hq with hq | hq
          · have := HP.out q hq; omega
          · omega))).mono (fun q hq => by
          rcases hq with hq | hq
          · exact .inl hq
          · exact .inr ⟨by have := HSZ.out; omega, by rw [store6_size]; have := hbq.size; omega⟩)⟩, store6_below (belowStep hbq HBR.out) _ _ _ _ _ _ _ _ (Nat.le_succ _)⟩)
      unfold store6 at hz HE
      simp only [Nat.zero_add] at hz HE
      have z0 := hz.cell 0 (.int .i64 z.op) rfl
      have z1 := hz.cell 1 (.int .i64 z.n) rfl
      have z2 := hz.cell 2 (.string z.s) rfl
      have z3 := hz.cell 3 (.slice ua un uc) rfl
      have z4 := hz.cell 4 (.slice va vn vc) rfl
      have z5 := hz.cell 5 (.slice xa xn xc) rfl
      clear hy hzr hz hbq HIN
      go_wp2
      refine bodyPost_ret (v := .agg #[.int .i64 z.op, .int .i64 z.n, .string z.s, .slice ua un uc, .slice va vn vc, .slice xa xn xc]) (by simp [results, Tryz.results77, go_sem, z0, z1, z2, z3, z4, z5]) rfl ?_
      exact HE.out
set_option maxRecDepth 100000 in
set_option maxHeartbeats 2000000 in
theorem rBind_any (P : Nat → Prop) (names : List ByteArray) (hnl : names.length ≤ 100000) (t : Con) (hall : Con.allB t = true) (hd : t.depth ≤ 100000) (w : World) (v xv : Value) (hP : ∀ q, P q → q < w.heap.size) (ht : ConV w P t v) (hl : StrSl w P xv names) :
    Calls Tryz.prog 26 #[v, xv] w (RcP P (Con.bindC names t 0) w) := by
  obtain ⟨ka, kn, kc, na, nn, nc, la, ln, lc, rfl, -, -, -⟩ := ht.shape
  have hlk := hl
  obtain ⟨ea, ec, rfl, -, -, -⟩ := hlk
  have HNL := Lib.hid hnl
  clear hnl
  generalize hm : names.length = m at *
  obtain ⟨op, hop⟩ : ∃ op, op = t.op := ⟨_, rfl⟩
  obtain ⟨num, hnum⟩ : ∃ num, num = t.n := ⟨_, rfl⟩
  obtain ⟨s, hs⟩ : ∃ s, s = t.s := ⟨_, rfl⟩
  have HCV := Lib.hid (fun W (hW : Below w.heap.size w W) => rbind_any P names (by rw [hm]; exact HNL.out) t hall 0 W _ _ (fun q hq => Nat.lt_of_lt_of_le (hP q hq) hW.size) (ht.keep (Same.of_below hW hP)) (hl.keep (Same.of_below hW hP)) (by omega) (by omega))
  rw [← hop, ← hnum, ← hs] at HCV ⊢
  have HP := Lib.hid hP
  clear ht hl hm hP hop hnum hs
  have hbx := boxN_new w 28 #[.int .i64 op, .int .i64 num, .string s, .slice ka kn kc, .slice na nn nc, .slice la ln lc]
  have hr0 := boxN_new (w.alloc (.cells #[.int .i64 op, .int .i64 num, .string s, .slice ka kn kc, .slice na nn nc, .slice la ln lc] 28)) 28 #[.int .i64 0, .int .i64 0, .string ⟨#[]⟩, .slice none 0 0, .slice none 0 0, .slice none 0 0]
  have hr1 := hr0.1
  rw [size_alloc] at hr1
  have HBX := Lib.hid (hbx.1.alloc (.cells #[.int .i64 0, .int .i64 0, .string ⟨#[]⟩, .slice none 0 0, .slice none 0 0, .slice none 0 0] 28))
  have HRX := Lib.hid hr1
  have HB := Lib.hid (belowStep hr0.2 hbx.2)
  clear hbx hr0 hr1
  go_enter Tryz.func26, Tryz.ntmps26
  go_upto_region 1 with fail
  generalize hw1 : (w.alloc (.cells #[.int .i64 op, .int .i64 num, .string s, .slice ka kn kc, .slice na nn nc, .slice la ln lc] 28)).alloc (.cells #[.int .i64 0, .int .i64 0, .string ⟨#[]⟩, .slice none 0 0, .slice none 0 0, .slice none 0 0] 28) = w1 at *
  have HSZ := Lib.hid (show w1.heap.size = w.heap.size + 2 from by rw [← hw1, size_alloc, size_alloc])
  clear hw1
  have c0 := HBX.out.cell 0 (.int .i64 op) rfl
  have c1 := HBX.out.cell 1 (.int .i64 num) rfl
  have c2 := HBX.out.cell 2 (.string s) rfl
  have c3 := HBX.out.cell 3 (.slice ka kn kc) rfl
  have c4 := HBX.out.cell 4 (.slice na nn nc) rfl
  have c5 := HBX.out.cell 5 (.slice la ln lc) rfl
  go_wp2_with fail
  clear c0 c1 c2 c3 c4 c5
  refine (HCV.out w1 HB.out).mono ?_
  rintro e wq ⟨⟨yv, rfl, hy⟩, hbq⟩
  obtain ⟨ua, un, uc, va, vn, vc, xa, xn, xc, hyv, -, -, -⟩ := hy.shape
  subst hyv
  generalize Con.bindC names t 0 = z at *
  have hzr := HRX.out.of_eq (hbq.block _ HRX.out.lt)
  have HBR := HB
  have HIN := True.intro
  have hy := hy.mono (Q := fun q => P q ∨ (w1.heap.size ≤ q ∧ q < wq.heap.size)) (fun q hq => hq)
  have t0 := hzr.thaw 0
  have t1 := hzr.thaw 1
  have t2 := hzr.thaw 2
  have t3 := hzr.thaw 3
  have t4 := hzr.thaw 4
  have t5 := hzr.thaw 5
  have r0 := hzr.cell 0 (.int .i64 0) rfl
  have r1 := hzr.cell 1 (.int .i64 0) rfl
  have r2 := hzr.cell 2 (.string ⟨#[]⟩) rfl
  have r3 := hzr.cell 3 (.slice none 0 0) rfl
  have r4 := hzr.cell 4 (.slice none 0 0) rfl
  have r5 := hzr.cell 5 (.slice none 0 0) rfl
  have hz := store6_blk hzr 0 (.int .i64 z.op) (.int .i64 z.n) (.string z.s) (.slice ua un uc) (.slice va vn vc) (.slice xa xn xc)
  rw [put6_all] at hz
  have HE := Lib.hid (show RcP P z w (.returned (.agg #[.int .i64 z.op, .int .i64 z.n, .string z.s, .slice ua un uc, .slice va vn vc, .slice xa xn xc])) (store6 wq (w.heap.size + 1) 0 (.int .i64 z.op) (.int .i64 z.n) (.string z.s) (.slice ua un uc) (.slice va vn vc) (.slice xa xn xc)) from
    ⟨⟨_, rfl, (hy.keep (fun q hq => store6_other _ _ _ _ _ _ _ _ _ q (by
      have := HSZ.out
      rcases hq with hq | hq
      · have := HP.out q hq; omega
      · omega))).mono (fun q hq => by
      rcases hq with hq | hq
      · exact .inl hq
      · exact .inr ⟨by have := HSZ.out; omega, by rw [store6_size]; have := hbq.size; omega⟩)⟩, store6_below (belowStep hbq HBR.out) _ _ _ _ _ _ _ _ (Nat.le_succ _)⟩)
  unfold store6 at hz HE
  simp only [Nat.zero_add] at hz HE
  have z0 := hz.cell 0 (.int .i64 z.op) rfl
  have z1 := hz.cell 1 (.int .i64 z.n) rfl
  have z2 := hz.cell 2 (.string z.s) rfl
  have z3 := hz.cell 3 (.slice ua un uc) rfl
  have z4 := hz.cell 4 (.slice va vn vc) rfl
  have z5 := hz.cell 5 (.slice xa xn xc) rfl
  clear hy hzr hz hbq HIN
  go_wp2
  refine bodyPost_ret (v := .agg #[.int .i64 z.op, .int .i64 z.n, .string z.s, .slice ua un uc, .slice va vn vc, .slice xa xn xc]) (by simp [results, Tryz.results26, go_sem, z0, z1, z2, z3, z4, z5]) rfl ?_
  exact HE.out
end Go.Proofs.YtpkgiemdnfbopaaGreat
namespace Go.Proofs.YtpkgiemdnfbopaaGreat
open Go Go.RowKit
open Pl (K Con)
set_option linter.unusedSimpArgs false
set_option linter.unusedVariables false

theorem unb_take (cs : List (ByteArray × K)) (k i : Nat) (hi : i < cs.length) (h : i + k + 1 = cs.length) : (unb cs).take (k + 1) = (unb cs).take k ++ [cst cs[i]] := by
  have hk : k < (unb cs).length := by rw [unb_len]; omega
  rw [List.take_succ_eq_append_getElem hk]
  congr 2
  simp only [unb, List.getElem_map, List.getElem_reverse]
  congr 2
  omega
set_option maxRecDepth 100000 in
set_option maxHeartbeats 4000000 in
theorem rUnbind_any (P : Nat → Prop) (cs : List (ByteArray × K)) (hcb : cs.all cstB = true) (hlen : cs.length ≤ 100000) (t : Con) (hall : Con.allB t = true) (hd : t.depth ≤ 100000) (w : World) (v xv : Value) (hP : ∀ q, P q → q < w.heap.size) (ht : ConV w P t v) (hl : CstSl w P xv cs) :
    Calls Tryz.prog 28 #[v, xv] w (RcP P (Con.subst (unb cs) t 0) w) := by
  have HP := Lib.hid hP
  have HCV := Lib.hid (fun W (hW : Same P w W) => ht.keep hW)
  have HCL := Lib.hid (fun W (hW : Same P w W) => hl.keep hW)
  have HSU := Lib.hid (fun (R : Nat → Prop) W v xv (h1 : ∀ q, R q → q < W.heap.size) (h2 : ConV W R t v) (h3 : ConSl W R xv (unb cs)) => rSubst_any R (unb cs) (unb_all cs hcb) t hall hd W v xv h1 h2 h3)
  obtain ⟨ka, kn, kc, na, nn, nc, la, ln, lc, rfl, -, -, -⟩ := ht.shape
  obtain ⟨ea, ec, rfl, -⟩ := hl
  obtain ⟨n, hn⟩ : ∃ n, n = cs.length := ⟨_, rfl⟩
  have HN := Lib.hid hn
  rw [← hn] at HCL hlen ⊢
  obtain ⟨op, hop⟩ : ∃ op, op = t.op := ⟨_, rfl⟩
  obtain ⟨num, hnum⟩ : ∃ num, num = t.n := ⟨_, rfl⟩
  obtain ⟨s, hs⟩ : ∃ s, s = t.s := ⟨_, rfl⟩
  rw [← hop, ← hnum, ← hs] at HCV ⊢
  clear hn hop hnum hs ht hP hcb hall hd
  have hbx := boxN_new w 28 #[.int .i64 op, .int .i64 num, .string s, .slice ka kn kc, .slice na nn nc, .slice la ln lc]
  have hr0 := boxN_new (w.alloc (.cells #[.int .i64 op, .int .i64 num, .string s, .slice ka kn kc, .slice na nn nc, .slice la ln lc] 28)) 28 #[.int .i64 0, .int .i64 0, .string ⟨#[]⟩, .slice none 0 0, .slice none 0 0, .slice none 0 0]
  have hr1 := hr0.1
  rw [size_alloc] at hr1
  have HBX := Lib.hid (hbx.1.alloc (.cells #[.int .i64 0, .int .i64 0, .string ⟨#[]⟩, .slice none 0 0, .slice none 0 0, .slice none 0 0] 28))
  have HRX := Lib.hid hr1
  have HB := Lib.hid (belowStep hr0.2 hbx.2)
  clear hbx hr0 hr1
  have hw0 : wrap64 ((n : Int) - 1) = (n : Int) - 1 := by rw [wrap64]; omega
  go_enter Tryz.func28, Tryz.ntmps28
  go_upto_region 1 with fail
  generalize hw1 : (w.alloc (.cells #[.int .i64 op, .int .i64 num, .string s, .slice ka kn kc, .slice na nn nc, .slice la ln lc] 28)).alloc (.cells #[.int .i64 0, .int .i64 0, .string ⟨#[]⟩, .slice none 0 0, .slice none 0 0, .slice none 0 0] 28) = w1 at *
  have HSZ := Lib.hid (show w1.heap.size = w.heap.size + 2 from by rw [← hw1, size_alloc, size_alloc])
  clear hw1
  go_upto_region 3 with fail
  obtain ⟨iC, ci0, ci1, ci2, ci3⟩ := info_parts infoCon
  go_loopg [5, 6] (n + 1) (fun gk sl i wr => ∃ (k : Nat) (us : List Value) (iv : Int), k ≤ n ∧ i = .int .i64 iv ∧ iv = (n : Int) - 1 - (k : Int) ∧ gk = n + 1 - k ∧ CB P w1.heap.size wr ((unb cs).take k) us sl ∧ Below w1.heap.size w1 wr)
  case atStart => exact ⟨0, [], _, Nat.zero_le _, rfl, by omega, by omega, by rw [List.take_zero]; exact CB.nil _ _ _, Below.refl _ _⟩
  case round =>
    obtain ⟨k, us, iv, hk, rfl, hiv, hgk, hcb, hbw⟩ := hrel
    have HCB := Lib.hid hcb
    have HBW := Lib.hid hbw
    replace HBX := Lib.hid (HBX.out.of_eq (hbw.block _ HBX.out.lt))
    replace HRX := Lib.hid (HRX.out.of_eq (hbw.block _ HRX.out.lt))
    have HPR := Lib.hid (fun q (hq : P q) => (show q < wr.heap.size from Nat.lt_of_lt_of_le (HP.out q hq) (Nat.le_trans HB.out.size hbw.size)))
    have HSR := Lib.hid (show Same P w wr from fun q hq => (hbw.block q (by have := HP.out q hq; have := HSZ.out; omega)).trans (HB.out.block q (HP.out q hq)))
    clear hcb hbw
    by_cases hlt : k < n
    · obtain ⟨i, rfl⟩ : ∃ i : Nat, iv = (i : Int) := ⟨iv.toNat, by omega⟩
      have hil : i < cs.length := by rw [← HN.out]; omega
      have q5 : decide (0 ≤ (i : Int)) = true := decide_eq_true (by omega)
      have q6 : decide ((i : Int) < 0) = false := decide_eq_false (by omega)
      have q7 : decide ((n : Int) ≤ (i : Int)) = false := decide_eq_false (by omega)
      have hwi : wrap64 ((i : Int) - 1) = (i : Int) - 1 := by rw [wrap64]; omega
      have HKI := Lib.hid (show i + k + 1 = n from by omega)
      have hin9 : i < n := by omega
      obtain ⟨eb, off, c', cka, ckn, ckc, e, hpb, hsz0, f0, f1, hkd⟩ := (HCL.out wr HSR.out).part i hil
      injection e with e1 e2 e3
      subst e1 e3
      clear e2
      have HTK := Lib.hid (show (unb cs).take (k + 1) = (unb cs).take k ++ [cst cs[i]] from unb_take cs k i hil (by rw [HKI.out, HN.out]))
      have HCC := Lib.hid (show cst cs[i] = (⟨2, 0, cs[i].1, cs[i].2, [], []⟩ : Con) from rfl)
      rw [HCC.out] at HTK
      clear HCC
      generalize cs[i].1 = cn at *
      generalize cs[i].2 = ck at *
      have hLk : k = ((unb cs).take k).length := by rw [List.length_take, unb_len, ← HN.out]; omega
      obtain ⟨L, hL⟩ : ∃ L, L = (unb cs).take k := ⟨_, rfl⟩
      rw [← hL] at HTK HCB hLk
      have HLK := Lib.hid hLk
      clear hLk hL hiv
      obtain ⟨sa, sc, hsv⟩ := row_form6 HCB.out.row
      subst hsv
      rw [← HLK.out] at HCB ⊢
      have hlit := boxN_new wr 28 #[.int .i64 2, .int .i64 0, .string cn, .slice cka ckn ckc, .slice none 0 0, .slice none 0 0]
      have hd0 : Below wr.heap.size wr wr.drew := (Below.refl _ _).drew
      have hbd : Below wr.heap.size wr (wr.alloc (.cells #[.int .i64 2, .int .i64 0, .string cn, .slice cka ckn ckc, .slice none 0 0, .slice none 0 0] 28)).drew := hlit.2.drew
      have HROWL := Lib.hid (show (wr.alloc (.cells #[.int .i64 2, .int .i64 0, .string cn, .slice cka ckn ckc, .slice none 0 0, .slice none 0 0] 28)).drew.ownsRow w1.heap.size 28 6 (.slice sa k sc) k us from by have h := (HCB.out.below HPR.out hbd).row; rw [← HLK.out] at h; exact h)
      have HNEW := Lib.hid (show ∀ j u, [.int .i64 2, .int .i64 0, .string cn, .slice cka ckn ckc, .slice none 0 0, .slice none 0 0][j]? = some u → (wr.alloc (.cells #[.int .i64 2, .int .i64 0, .string cn, .slice cka ckn ckc, .slice none 0 0, .slice none 0 0] 28)).drew.cell? ((⟨wr.heap.size, 0, none⟩ : Addr).add j) = some u from World.news_of_block (cs := #[.int .i64 2, .int .i64 0, .string cn, .slice cka ckn ckc, .slice none 0 0, .slice none 0 0]) (t := 28) (fr := (0, 0)) (hlit.1.drew))
      have hsz7 : (wr.alloc (.cells #[.int .i64 2, .int .i64 0, .string cn, .slice cka ckn ckc, .slice none 0 0, .slice none 0 0] 28)).drew.heap.size = wr.heap.size + 1 := size_alloc _ _
      have g0 := (cell_eq9 (hlit.2.block eb (HPR.out eb hpb))).trans f0
      have g1 := (cell_eq9 (hlit.2.block eb (HPR.out eb hpb))).trans f1
      have HLW := Lib.hid (show w1.heap.size ≤ wr.heap.size ∧ k ≤ 100000 from ⟨HBW.out.size, by omega⟩)
      have HYD := Lib.hid (show ConV wr.drew P (⟨2, 0, cn, ck, [], []⟩ : Con) (.agg #[.int .i64 2, .int .i64 0, .string cn, .slice cka ckn ckc, .slice none 0 0, .slice none 0 0]) from (conV_iff _ _ _ _).2 ⟨hsz0, _, _, _, rfl, hkd.keep (Same.of_below hd0 HPR.out), ⟨none, 0, rfl, Nat.le_refl _, Nat.zero_le _, fun _ => rfl, (fun z hz => by cases hz), .inl rfl⟩, conSl_none9 _ _⟩)
      have HD0 := Lib.hid hd0
      clear hlit hbd hkd hpb hsz0 hd0
      have HLOW := Lib.hid HCB.out.low
      go_upto_region 5 with fail
      go_region_law (refine step_append_lies _ rfl (.tmp 14) (.tmp 26) 26 rfl w1.heap.size 28 iC (.agg #[.int .i64 0, .int .i64 0, .string ByteArray.empty, .slice none 0 0, .slice none 0 0, .slice none 0 0]) 6 104 Tryz.underlying26 ci0 ci1 ci2 ci3 rfl (by decide) (.slice sa k sc) k us (by simp [Act.eval, Act.put]) HROWL.out ⟨wr.heap.size, 0, none⟩ 1 1 [.int .i64 2, .int .i64 0, .string cn, .slice cka ckn ckc, .slice none 0 0, .slice none 0 0] (by simp [Act.eval, Act.put]) rfl HNEW.out (by simp [Value.oneCell']) (by decide) (by have := HLW.out.2; unfold maxLen; omega) (by have := HLW.out.2; omega) (by have := HLW.out.1; rw [hsz7]; omega) (wr.heap.size + 1) hsz7 ?_; intro gg cap w8 hown hgrow hat hlt8)
      all_goals
        have HCB2 := Lib.hid ((HCB.out.below HPR.out HD0.out).push HLK.out (fun q hq => HPR.out q hq) HYD.out (fun q hq => ⟨.inl hq, fun e => by
          have h1 := HLOW.out q e
          have := HP.out q hq; have := HSZ.out; omega⟩) hown hgrow hat)
        have HBW2 := Lib.hid (((HBW.out.drew).alloc (by have := HLW.out.1; exact this) (.cells #[.int .i64 2, .int .i64 0, .string cn, .slice cka ckn ckc, .slice none 0 0, .slice none 0 0] 28)).grown hgrow (by have := HLW.out.1; rw [size_alloc]; exact Nat.le_succ_of_le this) (fun j hj => (HLOW.out j hj).1))
        rw [← HTK.out] at HCB2
        clear hown hgrow hat hlt8 hsz7 HTK HLOW HCB HLK HROWL HNEW HYD g0 g1 f0 f1
        try go_wp2
        go_roundg (gk - 1)
        case measure => omega
        case rel => exact ⟨k + 1, _, _, by omega, rfl, by have := HKI.out; omega, by omega, HCB2.out, HBW2.out⟩
    · have hkn : k = n := by omega
      subst hkn
      have q5 : decide (0 ≤ iv) = false := decide_eq_false (by omega)
      have hta : (unb cs).take k = unb cs := List.take_of_length_le (by rw [unb_len, ← HN.out]; exact Nat.le_refl _)
      rw [hta] at HCB
      clear hta hiv
      obtain ⟨L, hL⟩ : ∃ L, L = unb cs := ⟨_, rfl⟩
      rw [← hL] at HCB
      have HUL := Lib.hid hL
      clear hL
      obtain ⟨sa, sc, hsv⟩ := row_form6 HCB.out.row
      subst hsv
      have hcl := HCB.out.cons (S := fun q => P q ∨ (w1.heap.size ≤ q ∧ q < wr.heap.size)) (fun q hq => .inl hq) (fun q h1 h2 => .inr ⟨h1, h2⟩)
      have HIN := Lib.hid (HSU.out (fun q => P q ∨ (w1.heap.size ≤ q ∧ q < wr.heap.size)) wr (.agg #[.int .i64 op, .int .i64 num, .string s, .slice ka kn kc, .slice na nn nc, .slice la ln lc]) (.slice sa L.length sc) (fun q hq => by
        rcases hq with hq | hq
        · exact HPR.out q hq
        · exact hq.2) ((HCV.out wr HSR.out).mono (fun q hq => .inl hq)) (by have h := hcl; have e := HUL.out; rw [e] at h ⊢; exact h))
      generalize L.length = sn at *
      have HBR := Lib.hid (show Below w.heap.size w wr from ⟨HBW.out.os.trans HB.out.os, HBW.out.tape.trans HB.out.tape, HBW.out.output.trans HB.out.output, Nat.le_trans HB.out.size HBW.out.size, fun q hq => (HBW.out.block q (by have := HSZ.out; omega)).trans (HB.out.block q hq)⟩)
      have HWB := Lib.hid (show w1.heap.size ≤ wr.heap.size from HBW.out.size)
      clear hcl HCB HSU
      have c0 := HBX.out.cell 0 (.int .i64 op) rfl
      have c1 := HBX.out.cell 1 (.int .i64 num) rfl
      have c2 := HBX.out.cell 2 (.string s) rfl
      have c3 := HBX.out.cell 3 (.slice ka kn kc) rfl
      have c4 := HBX.out.cell 4 (.slice na nn nc) rfl
      have c5 := HBX.out.cell 5 (.slice la ln lc) rfl
      go_wp2_with fail
      clear c0 c1 c2 c3 c4 c5
      refine HIN.out.mono ?_
      rintro e wq ⟨⟨yv, rfl, hy⟩, hbq⟩
      obtain ⟨ua, un, uc, va, vn, vc, xa, xn, xc, hyv, -, -, -⟩ := hy.shape
      subst hyv
      generalize Con.subst (unb cs) t 0 = z at *
      have hzr := HRX.out.of_eq (hbq.block _ HRX.out.lt)
      have hy := hy.mono (Q := fun q => P q ∨ (w1.heap.size ≤ q ∧ q < wq.heap.size)) (fun q hq => by
        have := HWB.out
        have := hbq.size
        rcases hq with (hq | hq) | hq
        · exact .inl hq
        · exact .inr ⟨hq.1, by omega⟩
        · exact .inr ⟨by omega, hq.2⟩)
      have t0 := hzr.thaw 0
      have t1 := hzr.thaw 1
      have t2 := hzr.thaw 2
      have t3 := hzr.thaw 3
      have t4 := hzr.thaw 4
      have t5 := hzr.thaw 5
      have r0 := hzr.cell 0 (.int .i64 0) rfl
      have r1 := hzr.cell 1 (.int .i64 0) rfl
      have r2 := hzr.cell 2 (.string ⟨#[]⟩) rfl
      have r3 := hzr.cell 3 (.slice none 0 0) rfl
      have r4 := hzr.cell 4 (.slice none 0 0) rfl
      have r5 := hzr.cell 5 (.slice none 0 0) rfl
      have hz := store6_blk hzr 0 (.int .i64 z.op) (.int .i64 z.n) (.string z.s) (.slice ua un uc) (.slice va vn vc) (.slice xa xn xc)
      rw [put6_all] at hz
      have HE := Lib.hid (show RcP P z w (.returned (.agg #[.int .i64 z.op, .int .i64 z.n, .string z.s, .slice ua un uc, .slice va vn vc, .slice xa xn xc])) (store6 wq (w.heap.size + 1) 0 (.int .i64 z.op) (.int .i64 z.n) (.string z.s) (.slice ua un uc) (.slice va vn vc) (.slice xa xn xc)) from
        ⟨⟨_, rfl, (hy.keep (fun q hq => store6_other _ _ _ _ _ _ _ _ _ q (by
          have := HSZ.out
          rcases hq with hq | hq
          · have := HP.out q hq; omega
          · omega))).mono (fun q hq => by
          rcases hq with hq | hq
          · exact .inl hq
          · exact .inr ⟨by have := HSZ.out; omega, by rw [store6_size]; have := hbq.size; omega⟩)⟩, store6_below (belowStep hbq HBR.out) _ _ _ _ _ _ _ _ (Nat.le_succ _)⟩)
      unfold store6 at hz HE
      simp only [Nat.zero_add] at hz HE
      have z0 := hz.cell 0 (.int .i64 z.op) rfl
      have z1 := hz.cell 1 (.int .i64 z.n) rfl
      have z2 := hz.cell 2 (.string z.s) rfl
      have z3 := hz.cell 3 (.slice ua un uc) rfl
      have z4 := hz.cell 4 (.slice va vn vc) rfl
      have z5 := hz.cell 5 (.slice xa xn xc) rfl
      clear hy hzr hz hbq HIN
      go_wp2
      refine bodyPost_ret (v := .agg #[.int .i64 z.op, .int .i64 z.n, .string z.s, .slice ua un uc, .slice va vn vc, .slice xa xn xc]) (by simp [results, Tryz.results28, go_sem, z0, z1, z2, z3, z4, z5]) rfl ?_
      exact HE.out
end Go.Proofs.YtpkgiemdnfbopaaGreat
namespace Go.Proofs.YtpkgiemdnfbopaaGreat
open Go Go.RowKit
open Pl (K Con)
set_option linter.unusedSimpArgs false
set_option linter.unusedVariables false

theorem bytes_ne9 {a b : ByteArray} (h : a ≠ b) : (a.toList == b.toList) = false := (Lib.bytes_beq_false_iff a b).2 h
theorem bytes_eq9 {a b : ByteArray} (h : a = b) : (a.toList == b.toList) = true := (Lib.bytes_beq_iff a b).2 h
set_option maxRecDepth 100000 in
set_option maxHeartbeats 2000000 in
theorem rsameC_any (P Q : Nat → Prop) (xs ys : List (ByteArray × K)) (w : World) (v x : Value) (hP : ∀ b, P b → b < w.heap.size) (hQ : ∀ b, Q b → b < w.heap.size) (ha : CstSl w P v xs) (hb : CstSl w Q x ys) :
    Calls Tryz.prog 18 #[v, x] w (Says (xs = ys) w) := by
  have HP := Lib.hid hP
  have HQ := Lib.hid hQ
  have HSA := Lib.hid (fun W (hW : Below w.heap.size w W) => ha.keep (Same.of_below hW hP))
  have HSB := Lib.hid (fun W (hW : Below w.heap.size w W) => hb.keep (Same.of_below hW hQ))
  obtain ⟨la, lc, rfl, hlc, hcm, -⟩ := ha
  obtain ⟨la2, lc2, rfl, hlc2, hcm2, -⟩ := hb
  obtain ⟨n, hn⟩ : ∃ n, n = xs.length := ⟨_, rfl⟩
  obtain ⟨m, hm⟩ : ∃ n, n = ys.length := ⟨_, rfl⟩
  have HN := Lib.hid hn
  have HM := Lib.hid hm
  rw [← hn] at HSA hlc ⊢
  rw [← hm] at HSB hlc2 ⊢
  have hn63 : n ≤ 9223372036854775807 := by unfold maxLen at hcm; omega
  have hm63 : m ≤ 9223372036854775807 := by unfold maxLen at hcm2; omega
  clear hn hm hP hQ hcm hcm2 hlc hlc2
  have HB0 := Lib.hid (Below.refl w.heap.size w)
  by_cases h3 : n = m
  rotate_left
  · have q3 : ((n : Int) != (m : Int)) = true := by simp; omega
    have HNO := Lib.hid (show ¬ xs = ys from fun h => h3 (by rw [HN.out, HM.out, h]))
    clear h3
    go_enter Tryz.func18, Tryz.ntmps18
    go_wp2_with fail
    go_ret
    exact says_no HNO.out HB0.out
  subst h3
  have q3 : ((n : Int) != (n : Int)) = false := by simp
  go_enter Tryz.func18, Tryz.ntmps18
  go_wp2_with fail
  go_loopg [5] (n + 1) (fun g i wr => ∃ k : Nat, k ≤ n ∧ i = .int .i64 k ∧ g = n + 1 - k ∧ xs.take k = ys.take k ∧ Below w.heap.size w wr)
  case atStart => exact ⟨0, by omega, rfl, by omega, rfl, Below.refl _ _⟩
  case round =>
    obtain ⟨k, hk, rfl, hg, htk, hbw⟩ := hrel
    have HBW := Lib.hid hbw
    by_cases hlt : k < n
    · have q5 : decide ((k : Int) < (n : Int)) = true := decide_eq_true (by omega)
      have q6 : decide ((k : Int) < 0) = false := decide_eq_false (by omega)
      have q7 : decide ((n : Int) ≤ (k : Int)) = false := decide_eq_false (by omega)
      have hkl : k < xs.length := by rw [← HN.out]; exact hlt
      have hkm : k < ys.length := by rw [← HM.out]; exact hlt
      obtain ⟨b, off, c', ka, kn, kc, e, hPb, -, f0, f1, hx⟩ := (HSA.out wr hbw).part k hkl
      injection e with e1 e2 e3
      subst e1 e3
      clear e2
      obtain ⟨b2, off2, c'', ka2, kn2, kc2, e, hQb, -, g0, g1, hy⟩ := (HSB.out wr hbw).part k hkm
      injection e with e1 e2 e3
      subst e1 e3
      clear e2
      have HPR := Lib.hid (fun q (hq : P q) => (show q < wr.heap.size from Nat.lt_of_lt_of_le (HP.out q hq) hbw.size))
      have HQR := Lib.hid (fun q (hq : Q q) => (show q < wr.heap.size from Nat.lt_of_lt_of_le (HQ.out q hq) hbw.size))
      have HC := Lib.hid (fun W (hW : Below wr.heap.size wr W) => rsameK_any P Q xs[k].2 ys[k].2 W (.agg #[.slice ka kn kc]) (.agg #[.slice ka2 kn2 kc2]) (fun b h => Nat.lt_of_lt_of_le (HPR.out b h) hW.size) (fun b h => Nat.lt_of_lt_of_le (HQR.out b h) hW.size) ⟨_, rfl, hx.keep (Same.of_below hW HPR.out)⟩ ⟨_, rfl, hy.keep (Same.of_below hW HQR.out)⟩)
      have HKR := Lib.hid (Pl.K.eqv_iff xs[k].2 ys[k].2)
      have HSN := Lib.hid (take_snoc_iff k hkl hkm htk)
      have HGE := Lib.hid (show xs = ys → xs[k].1 = ys[k].1 ∧ xs[k].2 = ys[k].2 from fun h => by subst h; exact ⟨rfl, rfl⟩)
      have HPE := Lib.hid (show xs[k].1 = ys[k].1 → xs[k].2 = ys[k].2 → xs[k] = ys[k] from fun h1 h2 => Prod.ext h1 h2)
      have hd0 : Below wr.heap.size wr wr.drew := (Below.refl _ _).drew
      have f0d := (cell_eq9 (hd0.block b (HPR.out b hPb))).trans f0
      have f1d := (cell_eq9 (hd0.block b (HPR.out b hPb))).trans f1
      have g0d := (cell_eq9 (hd0.block b2 (HQR.out b2 hQb))).trans g0
      have g1d := (cell_eq9 (hd0.block b2 (HQR.out b2 hQb))).trans g1
      have HSS := Lib.hid (show ∀ W : World, Below wr.heap.size wr W → W.cell? ⟨b, off + k * 2, none⟩ = some (.string xs[k].1) ∧ W.cell? ⟨b, off + k * 2 + 1, none⟩ = some (.slice ka kn kc) ∧ W.cell? ⟨b2, off2 + k * 2, none⟩ = some (.string ys[k].1) ∧ W.cell? ⟨b2, off2 + k * 2 + 1, none⟩ = some (.slice ka2 kn2 kc2) from fun W hW =>
        ⟨(cell_eq9 (hW.block b (HPR.out b hPb))).trans f0, (cell_eq9 (hW.block b (HPR.out b hPb))).trans f1, (cell_eq9 (hW.block b2 (HQR.out b2 hQb))).trans g0, (cell_eq9 (hW.block b2 (HQR.out b2 hQb))).trans g1⟩)
      generalize xs[k].2 = k1 at *
      generalize ys[k].2 = k2 at *
      generalize xs[k].1 = s1 at *
      generalize ys[k].1 = s2 at *
      have HD0 := Lib.hid hd0
      clear hx hy hPb hQb hd0 htk hbw
      by_cases hnm : s1 = s2
      rotate_left
      · have hs2 := bytes_ne9 hnm
        have HNO := Lib.hid (show ¬ xs = ys from fun h => hnm (HGE.out h).1)
        have HBD := Lib.hid (HBW.out.drew)
        clear hnm
        go_wp2_with fail
        go_region
        go_wp2
        go_ret
        exact says_no HNO.out HBD.out
      · have hs2 := bytes_eq9 hnm
        have HNM := Lib.hid hnm
        clear hnm f0 f1 g0 g1 f0d f1d g0d g1d
        generalize K.eqv k1 k2 = r at *
        go_wp2_with fail
        go_region_held3 (fun W => W.cell? ⟨b, off + k * 2, none⟩ = some (.string s1) ∧ W.cell? ⟨b, off + k * 2 + 1, none⟩ = some (.slice ka kn kc) ∧ W.cell? ⟨b2, off2 + k * 2, none⟩ = some (.string s2) ∧ W.cell? ⟨b2, off2 + k * 2 + 1, none⟩ = some (.slice ka2 kn2 kc2))
          (first | (with_reducible exact HSS.out _ HD0.out) | (with_reducible exact HSS.out _ (by assumption)) | fail)
          (first
          | (go_at_call 39; (with_reducible refine (HC.out _ (by first | exact HD0.out | assumption)).mono ?_); rintro e w3 ⟨rfl, hb3⟩; have hb4 := belowStep (a := wr) hb3 (by first | exact HD0.out | assumption))
          | fail)
        all_goals
          have HB4 := Lib.hid (belowStep hb4 HBW.out)
          clear hb3 hb4
          cases r
          · have HNO := Lib.hid (show ¬ xs = ys from fun h => (by have := HKR.out.2 (HGE.out h).2; cases this))
            go_wp2
            go_ret
            exact says_no HNO.out HB4.out
          · have HTK := Lib.hid (HSN.out.2 (HPE.out HNM.out (HKR.out.1 rfl)))
            go_wp2
            go_roundg (gk - 1)
            case measure => omega
            case rel => exact ⟨k + 1, by omega, by go_num, by omega, HTK.out, HB4.out⟩
    · have hkn : n = k := by omega
      subst hkn
      have q5 : decide ((n : Int) < (n : Int)) = false := decide_eq_false (by omega)
      have HYS := Lib.hid (show xs = ys from by rw [List.take_of_length_le (by rw [HN.out]; exact Nat.le_refl _), List.take_of_length_le (by rw [← HM.out]; exact Nat.le_refl _)] at htk; exact htk)
      clear htk hbw
      go_wp2
      go_ret
      exact says_yes HYS.out HBW.out
end Go.Proofs.YtpkgiemdnfbopaaGreat
namespace Go.Proofs.YtpkgiemdnfbopaaGreat
open Go Go.RowKit
open Pl (K Con)
set_option linter.unusedSimpArgs false
set_option linter.unusedVariables false

/-- no two neighbours with one name -/
def distB : List (ByteArray × K) → Bool
  | [] => true
  | [_] => true
  | a :: b :: r => decide (a.1 ≠ b.1) && distB (b :: r)
theorem distB_iff : ∀ xs : List (ByteArray × K), distB xs = true ↔ ∀ (j : Nat) (h : j + 1 < xs.length), (xs[j]'(by omega)).1 ≠ xs[j + 1].1
  | [] => by simp [distB]
  | [_] => by simp [distB]
  | a :: b :: r => by
    have ih := distB_iff (b :: r)
    rw [distB, Bool.and_eq_true, ih, decide_eq_true_eq]
    constructor
    · rintro ⟨h1, h2⟩ j hj
      cases j with
      | zero => exact h1
      | succ j => exact h2 j (by simpa using hj)
    · intro h
      exact ⟨h 0 (by simp), fun j hj => h (j + 1) (by simpa using hj)⟩
def distV (xs : List (ByteArray × K)) (v : Value) : Value := if distB xs = true then v else .slice none 0 0
set_option maxRecDepth 100000 in
set_option maxHeartbeats 2000000 in
theorem rdistinct_any (P : Nat → Prop) (xs : List (ByteArray × K)) (w : World) (v : Value) (hP : ∀ b, P b → b < w.heap.size) (ha : CstSl w P v xs) :
    Calls Tryz.prog 70 #[v] w fun e w' => e = .returned (.tuple #[distV xs v, .bool (distB xs)]) ∧ Below w.heap.size w w' := by
  have HP := Lib.hid hP
  have HSA := Lib.hid (fun W (hW : Below w.heap.size w W) => ha.keep (Same.of_below hW hP))
  obtain ⟨la, lc, rfl, hlc, hcm, -⟩ := ha
  obtain ⟨n, hn⟩ : ∃ n, n = xs.length := ⟨_, rfl⟩
  have HN := Lib.hid hn
  rw [← hn] at HSA hlc ⊢
  have hn63 : n ≤ 9223372036854775807 := by unfold maxLen at hcm; omega
  have HDI := Lib.hid (distB_iff xs)
  have HDV := Lib.hid (fun v => (show distV xs v = if distB xs = true then v else .slice none 0 0 from rfl))
  clear hn hP hcm hlc
  go_enter Tryz.func70, Tryz.ntmps70
  go_wp2_with fail
  go_loopg [4] (n + 1) (fun g i wr => ∃ k : Nat, (k < n ∨ k = 0) ∧ i = .int .i64 ((k : Int) + 1) ∧ g = n + 1 - k ∧ (∀ (j : Nat) (h : j + 1 < xs.length), j < k → (xs[j]'(by omega)).1 ≠ xs[j + 1].1) ∧ Below w.heap.size w wr)
  case atStart => exact ⟨0, .inr rfl, rfl, by omega, fun j _ h => absurd h (Nat.not_lt_zero _), Below.refl _ _⟩
  case round =>
    obtain ⟨k, hk, rfl, hg, hin, hbw⟩ := hrel
    have HBW := Lib.hid hbw
    have HI := Lib.hid hin
    clear hin
    by_cases hlt : k + 1 < n
    · have q5 : decide ((k : Int) + 1 < (n : Int)) = true := decide_eq_true (by omega)
      have hkl : k + 1 < xs.length := by rw [← HN.out]; exact hlt
      have hkl0 : k < xs.length := by omega
      have hk0 : k < n := by omega
      obtain ⟨b, off, c', ka, kn, kc, e, hPb, -, f0, f1, hx⟩ := (HSA.out wr hbw).part k hkl0
      injection e with e1 e2 e3
      subst e1 e3
      clear e2
      obtain ⟨b2, off2, c'', ka2, kn2, kc2, e, hQb, -, g0, g1, hy⟩ := (HSA.out wr hbw).part (k + 1) hkl
      injection e with e1 e2 e3
      injection e1 with e1
      injection e1 with e4 e5
      subst e3 e4 e5
      clear e2
      have HPR := Lib.hid (fun q (hq : P q) => (show q < wr.heap.size from Nat.lt_of_lt_of_le (HP.out q hq) hbw.size))
      have hd0 : Below wr.heap.size wr wr.drew := (Below.refl _ _).drew
      have f0d := (cell_eq9 (hd0.block b (HPR.out b hPb))).trans f0
      have g0d := (cell_eq9 (hd0.block b (HPR.out b hPb))).trans g0
      have w1' : wrap64 ((k : Int) + 1 - 1) = (k : Int) := by rw [wrap64]; omega
      have w2' : wrap64 ((k : Int) + 1 + 1) = (k : Int) + 1 + 1 := by rw [wrap64]; omega
      have w3' : IntKind.i64.wrap ((k : Int) + 1 - 1) = (k : Int) := by rw [IntKind.wrap_i64]; omega
      have HKK := Lib.hid (show ∀ h, xs[k].1 = xs[k + 1].1 → distB xs = h → h = false from fun h e1 e2 => by
        cases h
        · rfl
        · exact absurd e1 (HDI.out.1 e2 k hkl))
      have HNX := Lib.hid (show xs[k].1 ≠ xs[k + 1].1 → ∀ (j : Nat) (h : j + 1 < xs.length), j < k + 1 → (xs[j]'(by omega)).1 ≠ xs[j + 1].1 from fun e j hj hjk => by
        rcases Nat.lt_succ_iff_lt_or_eq.1 hjk with h | h
        · exact HI.out j hj h
        · subst h; exact e)
      generalize xs[k].1 = s1 at *
      generalize xs[k + 1].1 = s2 at *
      have HBD := Lib.hid (HBW.out.drew)
      clear hx hy hPb hQb hd0 hbw f1 g1 hkl hkl0
      by_cases hnm : s1 = s2
      · have hs2 := bytes_eq9 hnm
        have HF := Lib.hid (HKK.out _ hnm rfl)
        clear hnm
        go_wp2_with fail
        go_region
        go_wp2
        refine bodyPost_ret (v := .tuple #[.slice none 0 0, .bool false]) (by simp [results, Tryz.results70, go_sem]) rfl ?_
        exact ⟨by rw [HDV.out, HF.out]; rfl, HBD.out⟩
      · have hs2 := bytes_ne9 hnm
        have HNXT := Lib.hid (HNX.out hnm)
        clear hnm
        go_wp2_with fail
        go_region
        go_wp2
        go_roundg (gk - 1)
        case measure => omega
        case rel => exact ⟨k + 1, by omega, by simp, by omega, HNXT.out, HBD.out⟩
    · have q5 : decide ((k : Int) + 1 < (n : Int)) = false := decide_eq_false (by omega)
      have HT := Lib.hid (show distB xs = true from HDI.out.2 (fun j hj => HI.out j hj (by have := HN.out; omega)))
      clear hbw
      go_wp2
      refine bodyPost_ret (v := .tuple #[.slice la n lc, .bool true]) (by simp [results, Tryz.results70, go_sem]) rfl ?_
      exact ⟨by rw [HDV.out, HT.out]; rfl, HBW.out⟩
end Go.Proofs.YtpkgiemdnfbopaaGreat
namespace Go.Proofs.YtpkgiemdnfbopaaGreat
open Go Go.RowKit
open Pl (K Con)
set_option linter.unusedSimpArgs false
set_option linter.unusedVariables false

/-- a name at or behind another -/
def cGe (x s : ByteArray) : Bool := !(Op.bytesLess x.toList s.toList)
def cstepA (c x : ByteArray × K) (d : Bool) : List (ByteArray × K) := if d = false ∧ cGe x.1 c.1 = true then [c] else []
def cstepB (c x : ByteArray × K) : List (ByteArray × K) := if x.1 = c.1 ∧ K.eqv x.2 c.2 = true then [] else [x]
/-- what the loop has put together, and whether the constant is in -/
def cpre (c : ByteArray × K) : List (ByteArray × K) → Bool → List (ByteArray × K)
  | [], _ => []
  | x :: r, d => cstepA c x d ++ (cstepB c x ++ cpre c r (d || cGe x.1 c.1))
def cdone (c : ByteArray × K) (l : List (ByteArray × K)) (d : Bool) : Bool := d || l.any (fun x => cGe x.1 c.1)
theorem cdone_cons (c x : ByteArray × K) (r : List (ByteArray × K)) (d : Bool) : cdone c (x :: r) d = cdone c r (d || cGe x.1 c.1) := by simp [cdone, Bool.or_assoc]
theorem cdone_snoc (c x : ByteArray × K) (l : List (ByteArray × K)) (d : Bool) : cdone c (l ++ [x]) d = (cdone c l d || cGe x.1 c.1) := by simp [cdone, Bool.or_assoc]
theorem cpre_snoc (c x : ByteArray × K) : ∀ (l : List (ByteArray × K)) (d : Bool), cpre c (l ++ [x]) d = cpre c l d ++ (cstepA c x (cdone c l d) ++ cstepB c x) := by
  intro l
  induction l with
  | nil => intro d; simp [cpre, cdone]
  | cons y r ih =>
    intro d
    rw [List.cons_append, cpre, cpre, ih, cdone_cons]
    simp [List.append_assoc]
/-- the list with a constant in -/
def caddL (l : List (ByteArray × K)) (c : ByteArray × K) : List (ByteArray × K) := cpre c l false ++ (if cdone c l false = true then [] else [c])
theorem cpre_len (c : ByteArray × K) : ∀ (l : List (ByteArray × K)) (d : Bool), (cpre c l d).length + (if cdone c l d = true then 0 else 1) ≤ l.length + (if d = true then 0 else 1) := by
  intro l
  induction l with
  | nil => intro d; simp [cpre, cdone]
  | cons x r ih =>
    intro d
    have h := ih (d || cGe x.1 c.1)
    rw [cpre, cdone_cons, List.length_append, List.length_append, List.length_cons]
    have hB : (cstepB c x).length ≤ 1 := by unfold cstepB; split <;> simp
    have hA : (cstepA c x d).length + (if (d || cGe x.1 c.1) = true then 0 else 1) ≤ (if d = true then 0 else 1) := by
      unfold cstepA
      cases d <;> cases cGe x.1 c.1 <;> simp
    omega
theorem caddL_len (l : List (ByteArray × K)) (c : ByteArray × K) : (caddL l c).length ≤ l.length + 1 := by
  have h := cpre_len c l false
  unfold caddL
  rw [List.length_append]
  cases hd : cdone c l false <;> rw [hd] at h <;> simp at h ⊢ <;> omega
theorem cpre_le (c : ByteArray × K) (l : List (ByteArray × K)) : (cpre c l false).length ≤ l.length + 1 := by
  have h := cpre_len c l false
  simp at h
  omega
mutual
/-- the constants of a constructor, put into an ascending list -/
def Con.putC : Con → List (ByteArray × K) → List (ByteArray × K)
  | ⟨op, _, s, k, _, l⟩, cs => if op = 2 then caddL cs (s, k) else Con.putCs l cs
def Con.putCs : List Con → List (ByteArray × K) → List (ByteArray × K)
  | [], cs => cs
  | t :: r, cs => Con.putCs r (Con.putC t cs)
end
theorem putCs_fold (l : List Con) : ∀ cs, Con.putCs l cs = l.foldl (fun a t => Con.putC t a) cs := by
  induction l with
  | nil => intro cs; rw [Con.putCs]; rfl
  | cons t r ih => intro cs; rw [Con.putCs, ih]; rfl
theorem putC_const (t : Con) (cs : List (ByteArray × K)) (h : t.op = 2) : Con.putC t cs = caddL cs (t.s, t.kind) := by
  obtain ⟨op, n, s, k, ns, l⟩ := t
  have h : op = 2 := h
  rw [Con.putC, if_pos h]
theorem putC_node (t : Con) (cs : List (ByteArray × K)) (h : t.op ≠ 2) : Con.putC t cs = t.l.foldl (fun a x => Con.putC x a) cs := by
  obtain ⟨op, n, s, k, ns, l⟩ := t
  have h : op ≠ 2 := h
  rw [Con.putC, if_neg h, putCs_fold]
theorem putC_len (t : Con) : ∀ cs, (Con.putC t cs).length ≤ cs.length + t.size := by
  induction t using Con.ind with
  | h t ih =>
  intro cs
  by_cases h2 : t.op = 2
  · rw [putC_const t cs h2]
    have := caddL_len cs (t.s, t.kind)
    have := Con.size_pos t
    omega
  · rw [putC_node t cs h2, Con.size_eq]
    have : ∀ (l : List Con) (cs : List (ByteArray × K)), (∀ x ∈ l, ∀ cs, (Con.putC x cs).length ≤ cs.length + x.size) → (l.foldl (fun a x => Con.putC x a) cs).length ≤ cs.length + Con.sizes l := by
      intro l
      induction l with
      | nil => intro cs _; simp [Con.sizes]
      | cons x r ihr =>
        intro cs h
        rw [List.foldl_cons, Con.sizes_cons]
        have h1 := ihr (Con.putC x cs) (fun y hy => h y (List.mem_cons_of_mem _ hy))
        have h2 := h x List.mem_cons_self cs
        omega
    have h := this t.l cs ih
    omega
/-- the cells of constants side by side, their kinds in the blocks P -/
def CstRow (w : World) (P : Nat → Prop) (us : List Value) (l : List (ByteArray × K)) : Prop :=
  us.length = l.length * 2 ∧ ∀ j (h : j < l.length), l[j].1.size ≤ maxLen ∧ ∃ ka kn kc, us[j * 2]? = some (.string l[j].1) ∧ us[j * 2 + 1]? = some (.slice ka kn kc) ∧ KidV w P l[j].2 (.slice ka kn kc)
/-- a row of its own that holds these constants -/
structure CC (P : Nat → Prop) (B : Nat) (wr : World) (l : List (ByteArray × K)) (us : List Value) (sv : Value) : Prop where
  row : wr.ownsRow B 36 2 sv l.length us
  kids : CstRow wr P us l
theorem CC.nil (P : Nat → Prop) (B : Nat) (wr : World) : CC P B wr [] [] (.slice none 0 0) := ⟨World.ownsRow_nil _ _ _ _, rfl, fun j hj => absurd hj (Nat.not_lt_zero _)⟩
theorem CstRow.keep {w w' : World} {P : Nat → Prop} {us : List Value} {l : List (ByteArray × K)} (h : CstRow w P us l) (hs : Same P w w') : CstRow w' P us l :=
  ⟨h.1, fun j hj => by obtain ⟨h1, ka, kn, kc, h2, h3, h4⟩ := h.2 j hj; exact ⟨h1, ka, kn, kc, h2, h3, h4.keep hs⟩⟩
theorem CC.below {P : Nat → Prop} {B : Nat} {wr W : World} {l : List (ByteArray × K)} {us : List Value} {sv : Value} (h : CC P B wr l us sv) (hP : ∀ b, P b → b < wr.heap.size) (hb : Below wr.heap.size wr W) : CC P B W l us sv :=
  ⟨h.row.kept (row := none) ⟨hb.os, hb.tape, hb.output, hb.size, fun i hi _ => hb.block i hi⟩ (by cases ho : sv.ownBlock with | none => exact .inl rfl | some k => exact .inr (by simp)), h.kids.keep (Same.of_below hb hP)⟩
theorem CstRow.push {w : World} {P : Nat → Prop} {us : List Value} {l : List (ByteArray × K)} {c : ByteArray × K} {ka : Option Addr} {kn kc : Nat} (h : CstRow w P us l) (hs : c.1.size ≤ maxLen) (hk : KidV w P c.2 (.slice ka kn kc)) : CstRow w P (us ++ [.string c.1, .slice ka kn kc]) (l ++ [c]) := by
  obtain ⟨h1, h2⟩ := h
  refine ⟨by simp [h1]; omega, fun j hj => ?_⟩
  by_cases hlt : j < l.length
  · obtain ⟨e1, a, n, k, e2, e3, e4⟩ := h2 j hlt
    rw [List.getElem_append_left hlt]
    exact ⟨e1, a, n, k, by rw [List.getElem?_append_left (by omega)]; exact e2, by rw [List.getElem?_append_left (by omega)]; exact e3, e4⟩
  · have hjl : j = l.length := by simp at hj; omega
    subst hjl
    have hg : (l ++ [c])[l.length] = c := by simp
    rw [hg]
    refine ⟨hs, ka, kn, kc, ?_, ?_, hk⟩
    · rw [← h1, List.getElem?_append_right (Nat.le_refl _)]; simp
    · rw [← h1, List.getElem?_append_right (by omega)]; simp
theorem CC.push {P : Nat → Prop} {B n : Nat} {wr w1 : World} {l : List (ByteArray × K)} {us : List Value} {sv v' : Value} {c : ByteArray × K} {ka : Option Addr} {kn kc : Nat} (h : CC P B wr l us sv) (hn : n = l.length) (hP : ∀ b, P b → b < wr.heap.size ∧ b < B)
    (hs : c.1.size ≤ maxLen) (hk : KidV wr P c.2 (.slice ka kn kc))
    (hown : w1.ownsRow B 36 2 v' (n + 1) (us ++ [.string c.1, .slice ka kn kc])) (hgrow : (wr.alloc (.cells #[.string c.1, .slice ka kn kc] 36)).grownBy w1 sv.ownBlock) :
    CC P B w1 (l ++ [c]) (us ++ [.string c.1, .slice ka kn kc]) v' := by
  subst hn
  have hS : Same P wr w1 := fun q hq =>
    (hgrow.block q (by rw [size_alloc]; have := (hP q hq).1; omega) (fun e => by have := (h.row.lt q e.symm).1; have := (hP q hq).2; omega)).trans (Below.heap_alloc wr _ q (hP q hq).1)
  exact ⟨by rw [List.length_append]; exact hown, (h.kids.push hs hk).keep hS⟩
theorem CC.slice {P S : Nat → Prop} {B : Nat} {wr : World} {l : List (ByteArray × K)} {us : List Value} {sv : Value} (h : CC P B wr l us sv) (hP : ∀ b, P b → S b) (hS : ∀ b, B ≤ b → b < wr.heap.size → S b) : CstSl wr S sv l := by
  have hc := h.row
  rcases h.row.2 with ⟨rfl, h0⟩ | ⟨g, cap, cu, rfl, hbg, hg, hnc, hcm, hcs, htake⟩
  · obtain rfl : l = [] := List.eq_nil_of_length_eq_zero h0
    exact ⟨none, 0, rfl, Nat.le_refl _, Nat.zero_le _, fun _ => rfl, .inl rfl⟩
  · refine ⟨_, cap, rfl, hnc, hcm, (fun h => by cases h), .inr ⟨g, 0, rfl, hS g hbg (hc.lt g rfl).2, fun j hj => ?_⟩⟩
    obtain ⟨e1, ka, kn, kc, e2, e3, e4⟩ := h.kids.2 j hj
    refine ⟨e1, ka, kn, kc, ?_, ?_, e4.mono hP⟩
    · rw [Nat.zero_add, hc.cellAt (j * 2) (by omega), e2]
    · rw [Nat.zero_add, hc.cellAt (j * 2 + 1) (by omega), e3]
theorem infoCst : (Tryz.prog.info? 36).map (fun i => (i.zero, i.size, i.bytes)) = some (some (.agg #[.string ByteArray.empty, .slice none 0 0]), 2, 40) := by kernel_rfl
end Go.Proofs.YtpkgiemdnfbopaaGreat
namespace Go.Proofs.YtpkgiemdnfbopaaGreat
open Go Go.RowKit
open Pl (K Con)
set_option linter.unusedSimpArgs false
set_option linter.unusedVariables false

theorem same_trans9 {P : Nat → Prop} {x y z : World} (h : Same P x y) (k : Same P y z) : Same P x z := fun q hq => (k q hq).trans (h q hq)
/-- a list of constants, in the blocks P and new ones -/
def CstP (P : Nat → Prop) (cs : List (ByteArray × K)) (w : World) (e : Ending) (w' : World) : Prop := (∃ y, e = .returned y ∧ CstSl w' (Ext P w w') y cs) ∧ Below w.heap.size w w'
set_option maxRecDepth 100000 in
set_option maxHeartbeats 4000000 in
theorem rconstsA_any (P : Nat → Prop) (t : Con) (h2 : t.op = 2) (cs : List (ByteArray × K)) (w : World) (v xv : Value) (hP : ∀ q, P q → q < w.heap.size) (ht : ConV w P t v) (hl : CstSl w P xv cs) (hlen : cs.length ≤ 1000000) :
    Calls Tryz.prog 71 #[xv, v] w (CstP P (caddL cs (t.s, t.kind)) w) := by
  have HSS := Lib.hid ((conV_iff _ _ _ _).1 ht).1
  obtain ⟨ka, kn, kc, na, nn, nc, la, ln, lc, rfl, -, -, -⟩ := ht.shape
  have HKC0 := Lib.hid (show KidV w P t.kind (.slice ka kn kc) from by
    obtain ⟨-, kv', nv', lv', e, hk, hn, hl⟩ := (conV_iff _ _ _ _).1 ht
    simp only [Value.agg.injEq, Array.mk.injEq, List.cons.injEq, and_true, true_and] at e
    obtain ⟨rfl, rfl, rfl⟩ := e
    exact hk)
  have HCL0 := Lib.hid hl
  obtain ⟨ea, ec, rfl, hel, hem, -⟩ := hl
  obtain ⟨m, hm⟩ : ∃ m, m = cs.length := ⟨_, rfl⟩
  have HM := Lib.hid hm
  rw [← hm] at HCL0 hlen ⊢
  have q1 : (t.op == 2) = true := by rw [h2]; rfl
  generalize t.op = op at *
  generalize t.n = num at *
  generalize t.s = s at *
  generalize t.kind = ck at *
  obtain ⟨hbx, hb⟩ := boxN_new w 28 #[.int .i64 op, .int .i64 num, .string s, .slice ka kn kc, .slice na nn nc, .slice la ln lc]
  have c0 := hbx.cell 0 (.int .i64 op) rfl
  have HBX := Lib.hid hbx
  have HBW0 := Lib.hid hb
  have hsz1 : (w.alloc (.cells #[.int .i64 op, .int .i64 num, .string s, .slice ka kn kc, .slice na nn nc, .slice la ln lc] 28)).heap.size = w.heap.size + 1 := size_alloc _ _
  have HP := Lib.hid hP
  clear hbx hb hm hP ht h2 hel hem
  obtain ⟨iC, ci0, ci1, ci2, ci3⟩ := info_parts infoCst
  go_enter Tryz.func71, Tryz.ntmps71
  go_wp2_with fail
  clear c0 q1
  generalize w.alloc (.cells #[.int .i64 op, .int .i64 num, .string s, .slice ka kn kc, .slice na nn nc, .slice la ln lc] 28) = w1 at *
  have HSZ := Lib.hid hsz1
  clear hsz1
  have HPW := Lib.hid (fun q (hq : P q) => (show q < w1.heap.size from by have := HP.out q hq; have := HSZ.out; omega))
  have HCL := Lib.hid (fun W (hW : Below w1.heap.size w1 W) => HCL0.out.keep (same_trans9 (Same.of_below HBW0.out HP.out) (Same.of_below hW HPW.out)))
  have HKC := Lib.hid (fun W (hW : Below w1.heap.size w1 W) => HKC0.out.keep (same_trans9 (Same.of_below HBW0.out HP.out) (Same.of_below hW HPW.out)))
  have HBC := Lib.hid (fun W (hW : Below w1.heap.size w1 W) => (show W.cell? ⟨w.heap.size, 2, none⟩ = some (.string s) ∧ W.cell? ⟨w.heap.size, 3, none⟩ = some (.slice ka kn kc) from by
    have h := HBX.out.of_eq (hW.block _ HBX.out.lt)
    exact ⟨h.cell 2 _ rfl, h.cell 3 _ rfl⟩))
  have HPL0 := Lib.hid (fun k => show (cpre (s, ck) (cs.take k) false).length ≤ 1000001 from by have := cpre_le (s, ck) (cs.take k); rw [List.length_take] at this; have := HM.out; omega)
  clear HCL0 HKC0 HBX
  go_loopg [5, 6, 7] (m + 1) (fun gk ov dn i wr => ∃ (k : Nat) (us : List Value), k ≤ m ∧ i = .int .i64 k ∧ dn = .bool (cdone (s, ck) (cs.take k) false) ∧ gk = m + 1 - k ∧ CC P w1.heap.size wr (cpre (s, ck) (cs.take k) false) us ov ∧ Below w1.heap.size w1 wr)
  case atStart => exact ⟨0, [], Nat.zero_le _, rfl, by rw [List.take_zero]; rfl, by omega, by rw [List.take_zero]; exact CC.nil _ _ _, Below.refl _ _⟩
  case round =>
    obtain ⟨k, us, hk, rfl, rfl, hgk, hcc, hbr⟩ := hrel
    have HO := Lib.hid hcc
    have HBZ := Lib.hid hbr
    have HPL := Lib.hid (HPL0.out k)
    clear hcc hbr HPL0
    by_cases hlt : k < m
    · have hkl : k < cs.length := by rw [← HM.out]; exact hlt
      have q5 : decide ((k : Int) < (m : Int)) = true := decide_eq_true (by omega)
      have q6 : decide ((k : Int) < 0) = false := decide_eq_false (by omega)
      have q7 : decide ((m : Int) ≤ (k : Int)) = false := decide_eq_false (by omega)
      obtain ⟨b, off, c', xa, xn, xc, e, hPb, hxs, g0, g1, hx⟩ := (HCL.out wr HBZ.out).part k hkl
      injection e with e1 e2 e3
      subst e1 e3
      clear e2
      have HXS := Lib.hid hxs
      have hsame := fun W (hW : Below w1.heap.size w1 W) => (show Same P wr W from fun q hq => (hW.block q (HPW.out q hq)).trans (HBZ.out.block q (HPW.out q hq)).symm)
      have HKX := Lib.hid (fun W (hW : Below w1.heap.size w1 W) => hx.keep (hsame W hW))
      have HPT := Lib.hid (fun W (hW : Below w1.heap.size w1 W) => (show W.cell? ⟨b, off + k * 2, none⟩ = some (.string cs[k].1) ∧ W.cell? ⟨b, off + k * 2 + 1, none⟩ = some (.slice xa xn xc) ∧ W.cell? ⟨w.heap.size, 2, none⟩ = some (.string s) ∧ W.cell? ⟨w.heap.size, 3, none⟩ = some (.slice ka kn kc) from
        ⟨(cell_eq9 (hsame W hW b hPb)).trans g0, (cell_eq9 (hsame W hW b hPb)).trans g1, HBC.out W hW⟩))
      have HTK := Lib.hid (show cpre (s, ck) (cs.take (k + 1)) false = cpre (s, ck) (cs.take k) false ++ (cstepA (s, ck) cs[k] (cdone (s, ck) (cs.take k) false) ++ cstepB (s, ck) cs[k]) ∧ cdone (s, ck) (cs.take (k + 1)) false = (cdone (s, ck) (cs.take k) false || cGe cs[k].1 s) from by
        rw [List.take_succ_eq_append_getElem hkl]; exact ⟨cpre_snoc _ _ _ _, cdone_snoc _ _ _ _⟩)
      have HPR9 := Lib.hid (show cs[k] = (cs[k].1, cs[k].2) from rfl)
      rw [HPR9.out] at HTK
      clear hxs hsame hx hPb g0 g1 HPR9 HCL HBC
      replace HTK := Lib.hid (show cpre (s, ck) (cs.take (k + 1)) false = cpre (s, ck) (cs.take k) false ++ (cstepA (s, ck) (cs[k].1, cs[k].2) (cdone (s, ck) (cs.take k) false) ++ cstepB (s, ck) (cs[k].1, cs[k].2)) ∧ cdone (s, ck) (cs.take (k + 1)) false = (cdone (s, ck) (cs.take k) false || cGe cs[k].1 s) from HTK.out)
      generalize cs[k].1 = xs at *
      generalize cs[k].2 = xk at *
      obtain ⟨PRE0, hp0⟩ : ∃ p, p = cpre (s, ck) (cs.take k) false := ⟨_, rfl⟩
      rw [← hp0] at HO HTK HPL
      obtain ⟨dn, hdn⟩ : ∃ d, d = cdone (s, ck) (cs.take k) false := ⟨_, rfl⟩
      rw [← hdn] at HTK ⊢
      clear hp0 hdn
      have HTD := Lib.hid HTK.out.2
      have HT1 := Lib.hid HTK.out.1
      clear HTK
      cases dn
      · have hpt := HPT.out wr HBZ.out
        have hptd := HPT.out wr.drew HBZ.out.drew
        obtain ⟨f0, f1, e2, e3⟩ := hpt
        obtain ⟨f0d, f1d, e2d, e3d⟩ := hptd
        have HOD := Lib.hid (HO.out.below (fun q hq => Nat.lt_of_lt_of_le (HPW.out q hq) HBZ.out.size) ((Below.refl _ _).drew))
        have HBD := Lib.hid (HBZ.out.drew)
        cases hge : cGe xs s
        · have hgb : Op.bytesLess xs.toList s.toList = true := by unfold cGe at hge; simpa using hge
          have HTT := Lib.hid (show cpre (s, ck) (cs.take (k + 1)) false = PRE0 ++ cstepB (s, ck) (xs, xk) from by rw [HT1.out, show cstepA (s, ck) (xs, xk) false = [] from if_neg (fun h => by have := h.2; rw [hge] at this; cases this), List.nil_append])
          rw [hge] at HTD
          go_wp2_with fail
          go_region
          clear f0 f1 e2 e3 f0d f1d e2d e3d HO HBZ HT1
          have HO := HOD
          have HBZ := HBD
          clear HOD HBD
          generalize wr.drew = wz at *
          have hpt := HPT.out wz HBZ.out
          have hptd := HPT.out wz.drew HBZ.out.drew
          obtain ⟨f0, f1, e2, e3⟩ := hpt
          obtain ⟨f0d, f1d, e2d, e3d⟩ := hptd
          by_cases hnm : xs = s
          rotate_left
          · have hs2 := bytes_ne9 hnm
            have HTB := Lib.hid (show cstepB (s, ck) (xs, xk) = [(xs, xk)] from if_neg (fun h => hnm h.1))
            rw [HTB.out] at HTT
            have HOD := Lib.hid (HO.out.below (fun q hq => Nat.lt_of_lt_of_le (HPW.out q hq) HBZ.out.size) ((Below.refl _ _).drew))
            have HBD := Lib.hid (HBZ.out.drew)
            clear hnm HTB
            go_wp2_with fail
            go_region
            clear f0 f1 e2 e3 HO HBZ
            have HO := HOD
            have HBZ := HBD
            clear HOD HBD
            generalize wz.drew = wz at *
            go_wp2_with (at_builtin; refine wpList_append_own _ rfl _ _ 29 rfl w1.heap.size 36 iC (.agg #[.string ByteArray.empty, .slice none 0 0]) 2 40 Tryz.underlying29 ci0 ci1 ci2 ci3 rfl (by decide) _ _ _ rfl (HO.out.row.alloc _) ⟨wz.heap.size, 0, none⟩ 1 1 [.string xs, .slice xa xn xc] rfl rfl ?c1x1 ?c2x1 ?c3x1 ?c4x1 ?c5x1 ?_)
            case c1x1 =>
              intro j u hj
              match j, hj with
              | 0, hj => simp at hj; subst hj; simp [Addr.add]
              | 1, hj => simp at hj; subst hj; simp [Addr.add]
              | j + 2, hj => simp at hj
            case c2x1 => first | rfl | (intro u hu; simp at hu; rcases hu with rfl | rfl <;> rfl)
            case c3x1 => have := HPL.out; unfold maxLen; omega
            case c4x1 => have := HPL.out; omega
            case c5x1 => have := HBZ.out.size; simp; omega
            intro v' w8 hown' hgrow _
            have HB1 := Lib.hid ((HBZ.out.alloc HBZ.out.size (.cells #[.string xs, .slice xa xn xc] 36)).grown hgrow (by have := HBZ.out.size; simp; omega) (fun j hj => (HO.out.row.lt j hj).1))
            have HO1 := Lib.hid (CC.push (c := (xs, xk)) HO.out rfl (fun q hq => ⟨Nat.lt_of_lt_of_le (HPW.out q hq) HBZ.out.size, HPW.out q hq⟩) HXS.out (HKX.out wz HBZ.out) hown' hgrow)
            rw [HTT.out.symm] at HO1
            clear hown' hgrow HO f0d f1d e2d e3d hs2
            go_wp2
            go_roundg (gk - 1)
            case measure => omega
            case rel => exact ⟨k + 1, _, by omega, by go_num, by simp [HTD.out], by omega, HO1.out, HB1.out⟩
          · have hs2 := bytes_eq9 hnm
            have HSK := Lib.hid (fun W (hW : Below wz.heap.size wz W) => rsameK_any P P xk ck W (.agg #[.slice xa xn xc]) (.agg #[.slice ka kn kc]) (fun q hq => Nat.lt_of_lt_of_le (HPW.out q hq) (Nat.le_trans HBZ.out.size hW.size)) (fun q hq => Nat.lt_of_lt_of_le (HPW.out q hq) (Nat.le_trans HBZ.out.size hW.size)) ⟨_, rfl, HKX.out W (belowStep hW HBZ.out)⟩ ⟨_, rfl, HKC.out W (belowStep hW HBZ.out)⟩)
            have HTB := Lib.hid (show cstepB (s, ck) (xs, xk) = if K.eqv xk ck = true then [] else [(xs, xk)] from by
              unfold cstepB
              by_cases h : K.eqv xk ck = true
              · rw [if_pos h, if_pos ⟨hnm, h⟩]
              · rw [if_neg h, if_neg (fun e => h e.2)])
            rw [HTB.out] at HTT
            have HSG := Lib.hid (fun W (hW : Below wz.heap.size wz W) => HPT.out W (belowStep hW HBZ.out))
            have HD0 := Lib.hid (show Below wz.heap.size wz wz.drew from (Below.refl _ _).drew)
            clear f0 f1 e2 e3 f0d f1d e2d e3d hnm HTB
            generalize K.eqv xk ck = r at *
            go_wp2_with fail
            go_region_held3 (fun W => W.cell? ⟨b, off + k * 2, none⟩ = some (.string xs) ∧ W.cell? ⟨b, off + k * 2 + 1, none⟩ = some (.slice xa xn xc) ∧ W.cell? ⟨w.heap.size, 2, none⟩ = some (.string s) ∧ W.cell? ⟨w.heap.size, 3, none⟩ = some (.slice ka kn kc))
              (first | (with_reducible exact HSG.out _ HD0.out) | (with_reducible exact HSG.out _ (by assumption)) | fail)
              (first
              | (go_at_call 39; (with_reducible refine (HSK.out _ (by first | exact HD0.out | assumption)).mono ?_); rintro e w3 ⟨rfl, hb3⟩; have hb4 := belowStep (a := wz) hb3 (by first | exact HD0.out | assumption))
              | fail)
            all_goals
              have HOD := Lib.hid (HO.out.below (fun q hq => Nat.lt_of_lt_of_le (HPW.out q hq) HBZ.out.size) hb4)
              have HBD := Lib.hid (belowStep hb4 HBZ.out)
              clear hb3 hb4 HO HBZ HSK HSG HD0
              have HO := HOD
              have HBZ := HBD
              clear HOD HBD
              rename World => wz
              cases r
              · have HTT2 := Lib.hid (HTT.out.trans (by rw [if_neg (by simp)]))
                obtain ⟨f0, f1, e2, e3⟩ := HPT.out wz HBZ.out
                go_wp2_with (at_builtin; refine wpList_append_own _ rfl _ _ 29 rfl w1.heap.size 36 iC (.agg #[.string ByteArray.empty, .slice none 0 0]) 2 40 Tryz.underlying29 ci0 ci1 ci2 ci3 rfl (by decide) _ _ _ rfl (HO.out.row.alloc _) ⟨wz.heap.size, 0, none⟩ 1 1 [.string xs, .slice xa xn xc] rfl rfl ?c1x2 ?c2x2 ?c3x2 ?c4x2 ?c5x2 ?_)
                case c1x2 =>
                  intro j u hj
                  match j, hj with
                  | 0, hj => simp at hj; subst hj; simp [Addr.add]
                  | 1, hj => simp at hj; subst hj; simp [Addr.add]
                  | j + 2, hj => simp at hj
                case c2x2 => first | rfl | (intro u hu; simp at hu; rcases hu with rfl | rfl <;> rfl)
                case c3x2 => have := HPL.out; unfold maxLen; omega
                case c4x2 => have := HPL.out; omega
                case c5x2 => have := HBZ.out.size; simp; omega
                intro v' w8 hown' hgrow _
                have HB1 := Lib.hid ((HBZ.out.alloc HBZ.out.size (.cells #[.string xs, .slice xa xn xc] 36)).grown hgrow (by have := HBZ.out.size; simp; omega) (fun j hj => (HO.out.row.lt j hj).1))
                have HO1 := Lib.hid (CC.push (c := (xs, xk)) HO.out rfl (fun q hq => ⟨Nat.lt_of_lt_of_le (HPW.out q hq) HBZ.out.size, HPW.out q hq⟩) HXS.out (HKX.out wz HBZ.out) hown' hgrow)
                rw [HTT2.out.symm] at HO1
                clear hown' hgrow HO f0 f1 e2 e3 hs2
                go_wp2
                go_roundg (gk - 1)
                case measure => omega
                case rel => exact ⟨k + 1, _, by omega, by go_num, by simp [HTD.out], by omega, HO1.out, HB1.out⟩
              · have HTT2 := Lib.hid (HTT.out.trans (by rw [if_pos rfl, List.append_nil]))
                rw [HTT2.out.symm] at HO
                clear hs2
                go_wp2
                go_roundg (gk - 1)
                case measure => omega
                case rel => exact ⟨k + 1, _, by omega, by go_num, by simp [HTD.out], by omega, HO.out, HBZ.out⟩
        · have hgb : Op.bytesLess xs.toList s.toList = false := by unfold cGe at hge; simpa using hge
          have HTT0 := Lib.hid (show cpre (s, ck) (cs.take (k + 1)) false = (PRE0 ++ [(s, ck)]) ++ cstepB (s, ck) (xs, xk) from by rw [HT1.out, show cstepA (s, ck) (xs, xk) false = [(s, ck)] from if_pos ⟨rfl, hge⟩, List.append_assoc])
          rw [hge] at HTD
          go_wp2_with fail
          go_region
          clear f0 f1 e2 e3 HO HBZ HT1
          have HO := HOD
          have HBZ := HBD
          clear HOD HBD hge
          generalize wr.drew = wz at *
          go_wp2_with (at_builtin; refine wpList_append_own _ rfl _ _ 29 rfl w1.heap.size 36 iC (.agg #[.string ByteArray.empty, .slice none 0 0]) 2 40 Tryz.underlying29 ci0 ci1 ci2 ci3 rfl (by decide) _ _ _ rfl (HO.out.row.alloc _) ⟨wz.heap.size, 0, none⟩ 1 1 [.string s, .slice ka kn kc] rfl rfl ?c1x3 ?c2x3 ?c3x3 ?c4x3 ?c5x3 ?_)
          case c1x3 =>
            intro j u hj
            match j, hj with
            | 0, hj => simp at hj; subst hj; simp [Addr.add]
            | 1, hj => simp at hj; subst hj; simp [Addr.add]
            | j + 2, hj => simp at hj
          case c2x3 => first | rfl | (intro u hu; simp at hu; rcases hu with rfl | rfl <;> rfl)
          case c3x3 => have := HPL.out; unfold maxLen; omega
          case c4x3 => have := HPL.out; omega
          case c5x3 => have := HBZ.out.size; simp; omega
          intro v' w8 hown' hgrow _
          have HB1 := Lib.hid ((HBZ.out.alloc HBZ.out.size (.cells #[.string s, .slice ka kn kc] 36)).grown hgrow (by have := HBZ.out.size; simp; omega) (fun j hj => (HO.out.row.lt j hj).1))
          have HO1 := Lib.hid (CC.push (c := (s, ck)) HO.out rfl (fun q hq => ⟨Nat.lt_of_lt_of_le (HPW.out q hq) HBZ.out.size, HPW.out q hq⟩) HSS.out (HKC.out wz HBZ.out) hown' hgrow)
          replace HPL := Lib.hid (show (PRE0 ++ [(s, ck)]).length ≤ 1000002 from by have := HPL.out; simp; omega)
          obtain ⟨PRE, hp1⟩ : ∃ p, p = PRE0 ++ [(s, ck)] := ⟨_, rfl⟩
          rw [← hp1] at HO1 HTT0 HPL
          clear hp1 hown' hgrow HO HBZ f0d f1d e2d e3d
          have HTT := HTT0
          have HO := HO1
          have HBZ := HB1
          clear HO1 HB1 HTT0
          generalize us ++ [Value.string s, Value.slice ka kn kc] = us at *
          rename World => wz
          have hpt := HPT.out wz HBZ.out
          have hptd := HPT.out wz.drew HBZ.out.drew
          obtain ⟨f0, f1, e2, e3⟩ := hpt
          obtain ⟨f0d, f1d, e2d, e3d⟩ := hptd
          by_cases hnm : xs = s
          rotate_left
          · have hs2 := bytes_ne9 hnm
            have HTB := Lib.hid (show cstepB (s, ck) (xs, xk) = [(xs, xk)] from if_neg (fun h => hnm h.1))
            rw [HTB.out] at HTT
            have HOD := Lib.hid (HO.out.below (fun q hq => Nat.lt_of_lt_of_le (HPW.out q hq) HBZ.out.size) ((Below.refl _ _).drew))
            have HBD := Lib.hid (HBZ.out.drew)
            clear hnm HTB
            go_wp2_with fail
            go_region
            clear f0 f1 e2 e3 HO HBZ
            have HO := HOD
            have HBZ := HBD
            clear HOD HBD
            generalize wz.drew = wz at *
            go_wp2_with (at_builtin; refine wpList_append_own _ rfl _ _ 29 rfl w1.heap.size 36 iC (.agg #[.string ByteArray.empty, .slice none 0 0]) 2 40 Tryz.underlying29 ci0 ci1 ci2 ci3 rfl (by decide) _ _ _ rfl (HO.out.row.alloc _) ⟨wz.heap.size, 0, none⟩ 1 1 [.string xs, .slice xa xn xc] rfl rfl ?c1x4 ?c2x4 ?c3x4 ?c4x4 ?c5x4 ?_)
            case c1x4 =>
              intro j u hj
              match j, hj with
              | 0, hj => simp at hj; subst hj; simp [Addr.add]
              | 1, hj => simp at hj; subst hj; simp [Addr.add]
              | j + 2, hj => simp at hj
            case c2x4 => first | rfl | (intro u hu; simp at hu; rcases hu with rfl | rfl <;> rfl)
            case c3x4 => have := HPL.out; unfold maxLen; omega
            case c4x4 => have := HPL.out; omega
            case c5x4 => have := HBZ.out.size; simp; omega
            intro v' w8 hown' hgrow _
            have HB1 := Lib.hid ((HBZ.out.alloc HBZ.out.size (.cells #[.string xs, .slice xa xn xc] 36)).grown hgrow (by have := HBZ.out.size; simp; omega) (fun j hj => (HO.out.row.lt j hj).1))
            have HO1 := Lib.hid (CC.push (c := (xs, xk)) HO.out rfl (fun q hq => ⟨Nat.lt_of_lt_of_le (HPW.out q hq) HBZ.out.size, HPW.out q hq⟩) HXS.out (HKX.out wz HBZ.out) hown' hgrow)
            rw [HTT.out.symm] at HO1
            clear hown' hgrow HO f0d f1d e2d e3d hs2
            go_wp2
            go_roundg (gk - 1)
            case measure => omega
            case rel => exact ⟨k + 1, _, by omega, by go_num, by simp [HTD.out], by omega, HO1.out, HB1.out⟩
          · have hs2 := bytes_eq9 hnm
            have HSK := Lib.hid (fun W (hW : Below wz.heap.size wz W) => rsameK_any P P xk ck W (.agg #[.slice xa xn xc]) (.agg #[.slice ka kn kc]) (fun q hq => Nat.lt_of_lt_of_le (HPW.out q hq) (Nat.le_trans HBZ.out.size hW.size)) (fun q hq => Nat.lt_of_lt_of_le (HPW.out q hq) (Nat.le_trans HBZ.out.size hW.size)) ⟨_, rfl, HKX.out W (belowStep hW HBZ.out)⟩ ⟨_, rfl, HKC.out W (belowStep hW HBZ.out)⟩)
            have HTB := Lib.hid (show cstepB (s, ck) (xs, xk) = if K.eqv xk ck = true then [] else [(xs, xk)] from by
              unfold cstepB
              by_cases h : K.eqv xk ck = true
              · rw [if_pos h, if_pos ⟨hnm, h⟩]
              · rw [if_neg h, if_neg (fun e => h e.2)])
            rw [HTB.out] at HTT
            have HSG := Lib.hid (fun W (hW : Below wz.heap.size wz W) => HPT.out W (belowStep hW HBZ.out))
            have HD0 := Lib.hid (show Below wz.heap.size wz wz.drew from (Below.refl _ _).drew)
            clear f0 f1 e2 e3 f0d f1d e2d e3d hnm HTB
            generalize K.eqv xk ck = r at *
            go_wp2_with fail
            go_region_held3 (fun W => W.cell? ⟨b, off + k * 2, none⟩ = some (.string xs) ∧ W.cell? ⟨b, off + k * 2 + 1, none⟩ = some (.slice xa xn xc) ∧ W.cell? ⟨w.heap.size, 2, none⟩ = some (.string s) ∧ W.cell? ⟨w.heap.size, 3, none⟩ = some (.slice ka kn kc))
              (first | (with_reducible exact HSG.out _ HD0.out) | (with_reducible exact HSG.out _ (by assumption)) | fail)
              (first
              | (go_at_call 39; (with_reducible refine (HSK.out _ (by first | exact HD0.out | assumption)).mono ?_); rintro e w3 ⟨rfl, hb3⟩; have hb4 := belowStep (a := wz) hb3 (by first | exact HD0.out | assumption))
              | fail)
            all_goals
              have HOD := Lib.hid (HO.out.below (fun q hq => Nat.lt_of_lt_of_le (HPW.out q hq) HBZ.out.size) hb4)
              have HBD := Lib.hid (belowStep hb4 HBZ.out)
              clear hb3 hb4 HO HBZ HSK HSG HD0
              have HO := HOD
              have HBZ := HBD
              clear HOD HBD
              rename World => wz
              cases r
              · have HTT2 := Lib.hid (HTT.out.trans (by rw [if_neg (by simp)]))
                obtain ⟨f0, f1, e2, e3⟩ := HPT.out wz HBZ.out
                go_wp2_with (at_builtin; refine wpList_append_own _ rfl _ _ 29 rfl w1.heap.size 36 iC (.agg #[.string ByteArray.empty, .slice none 0 0]) 2 40 Tryz.underlying29 ci0 ci1 ci2 ci3 rfl (by decide) _ _ _ rfl (HO.out.row.alloc _) ⟨wz.heap.size, 0, none⟩ 1 1 [.string xs, .slice xa xn xc] rfl rfl ?c1x5 ?c2x5 ?c3x5 ?c4x5 ?c5x5 ?_)
                case c1x5 =>
                  intro j u hj
                  match j, hj with
                  | 0, hj => simp at hj; subst hj; simp [Addr.add]
                  | 1, hj => simp at hj; subst hj; simp [Addr.add]
                  | j + 2, hj => simp at hj
                case c2x5 => first | rfl | (intro u hu; simp at hu; rcases hu with rfl | rfl <;> rfl)
                case c3x5 => have := HPL.out; unfold maxLen; omega
                case c4x5 => have := HPL.out; omega
                case c5x5 => have := HBZ.out.size; simp; omega
                intro v' w8 hown' hgrow _
                have HB1 := Lib.hid ((HBZ.out.alloc HBZ.out.size (.cells #[.string xs, .slice xa xn xc] 36)).grown hgrow (by have := HBZ.out.size; simp; omega) (fun j hj => (HO.out.row.lt j hj).1))
                have HO1 := Lib.hid (CC.push (c := (xs, xk)) HO.out rfl (fun q hq => ⟨Nat.lt_of_lt_of_le (HPW.out q hq) HBZ.out.size, HPW.out q hq⟩) HXS.out (HKX.out wz HBZ.out) hown' hgrow)
                rw [HTT2.out.symm] at HO1
                clear hown' hgrow HO f0 f1 e2 e3 hs2
                go_wp2
                go_roundg (gk - 1)
                case measure => omega
                case rel => exact ⟨k + 1, _, by omega, by go_num, by simp [HTD.out], by omega, HO1.out, HB1.out⟩
              · have HTT2 := Lib.hid (HTT.out.trans (by rw [if_pos rfl, List.append_nil]))
                rw [HTT2.out.symm] at HO
                clear hs2
                go_wp2
                go_roundg (gk - 1)
                case measure => omega
                case rel => exact ⟨k + 1, _, by omega, by go_num, by simp [HTD.out], by omega, HO.out, HBZ.out⟩
      · have HTT := Lib.hid (show cpre (s, ck) (cs.take (k + 1)) false = PRE0 ++ cstepB (s, ck) (xs, xk) from by rw [HT1.out, show cstepA (s, ck) (xs, xk) true = [] from if_neg (by simp), List.nil_append])
        have HOD := Lib.hid (HO.out.below (fun q hq => Nat.lt_of_lt_of_le (HPW.out q hq) HBZ.out.size) ((Below.refl _ _).drew))
        have HBD := Lib.hid (HBZ.out.drew)
        go_wp2_with fail
        go_region
        clear HO HBZ HT1
        have HO := HOD
        have HBZ := HBD
        clear HOD HBD
        generalize wr.drew = wz at *
        have hpt := HPT.out wz HBZ.out
        have hptd := HPT.out wz.drew HBZ.out.drew
        obtain ⟨f0, f1, e2, e3⟩ := hpt
        obtain ⟨f0d, f1d, e2d, e3d⟩ := hptd
        by_cases hnm : xs = s
        rotate_left
        · have hs2 := bytes_ne9 hnm
          have HTB := Lib.hid (show cstepB (s, ck) (xs, xk) = [(xs, xk)] from if_neg (fun h => hnm h.1))
          rw [HTB.out] at HTT
          have HOD := Lib.hid (HO.out.below (fun q hq => Nat.lt_of_lt_of_le (HPW.out q hq) HBZ.out.size) ((Below.refl _ _).drew))
          have HBD := Lib.hid (HBZ.out.drew)
          clear hnm HTB
          go_wp2_with fail
          go_region
          clear f0 f1 e2 e3 HO HBZ
          have HO := HOD
          have HBZ := HBD
          clear HOD HBD
          generalize wz.drew = wz at *
          go_wp2_with (at_builtin; refine wpList_append_own _ rfl _ _ 29 rfl w1.heap.size 36 iC (.agg #[.string ByteArray.empty, .slice none 0 0]) 2 40 Tryz.underlying29 ci0 ci1 ci2 ci3 rfl (by decide) _ _ _ rfl (HO.out.row.alloc _) ⟨wz.heap.size, 0, none⟩ 1 1 [.string xs, .slice xa xn xc] rfl rfl ?c1x6 ?c2x6 ?c3x6 ?c4x6 ?c5x6 ?_)
          case c1x6 =>
            intro j u hj
            match j, hj with
            | 0, hj => simp at hj; subst hj; simp [Addr.add]
            | 1, hj => simp at hj; subst hj; simp [Addr.add]
            | j + 2, hj => simp at hj
          case c2x6 => first | rfl | (intro u hu; simp at hu; rcases hu with rfl | rfl <;> rfl)
          case c3x6 => have := HPL.out; unfold maxLen; omega
          case c4x6 => have := HPL.out; omega
          case c5x6 => have := HBZ.out.size; simp; omega
          intro v' w8 hown' hgrow _
          have HB1 := Lib.hid ((HBZ.out.alloc HBZ.out.size (.cells #[.string xs, .slice xa xn xc] 36)).grown hgrow (by have := HBZ.out.size; simp; omega) (fun j hj => (HO.out.row.lt j hj).1))
          have HO1 := Lib.hid (CC.push (c := (xs, xk)) HO.out rfl (fun q hq => ⟨Nat.lt_of_lt_of_le (HPW.out q hq) HBZ.out.size, HPW.out q hq⟩) HXS.out (HKX.out wz HBZ.out) hown' hgrow)
          rw [HTT.out.symm] at HO1
          clear hown' hgrow HO f0d f1d e2d e3d hs2
          go_wp2
          go_roundg (gk - 1)
          case measure => omega
          case rel => exact ⟨k + 1, _, by omega, by go_num, by simp [HTD.out], by omega, HO1.out, HB1.out⟩
        · have hs2 := bytes_eq9 hnm
          have HSK := Lib.hid (fun W (hW : Below wz.heap.size wz W) => rsameK_any P P xk ck W (.agg #[.slice xa xn xc]) (.agg #[.slice ka kn kc]) (fun q hq => Nat.lt_of_lt_of_le (HPW.out q hq) (Nat.le_trans HBZ.out.size hW.size)) (fun q hq => Nat.lt_of_lt_of_le (HPW.out q hq) (Nat.le_trans HBZ.out.size hW.size)) ⟨_, rfl, HKX.out W (belowStep hW HBZ.out)⟩ ⟨_, rfl, HKC.out W (belowStep hW HBZ.out)⟩)
          have HTB := Lib.hid (show cstepB (s, ck) (xs, xk) = if K.eqv xk ck = true then [] else [(xs, xk)] from by
            unfold cstepB
            by_cases h : K.eqv xk ck = true
            · rw [if_pos h, if_pos ⟨hnm, h⟩]
            · rw [if_neg h, if_neg (fun e => h e.2)])
          rw [HTB.out] at HTT
          have HSG := Lib.hid (fun W (hW : Below wz.heap.size wz W) => HPT.out W (belowStep hW HBZ.out))
          have HD0 := Lib.hid (show Below wz.heap.size wz wz.drew from (Below.refl _ _).drew)
          clear f0 f1 e2 e3 f0d f1d e2d e3d hnm HTB
          generalize K.eqv xk ck = r at *
          go_wp2_with fail
          go_region_held3 (fun W => W.cell? ⟨b, off + k * 2, none⟩ = some (.string xs) ∧ W.cell? ⟨b, off + k * 2 + 1, none⟩ = some (.slice xa xn xc) ∧ W.cell? ⟨w.heap.size, 2, none⟩ = some (.string s) ∧ W.cell? ⟨w.heap.size, 3, none⟩ = some (.slice ka kn kc))
            (first | (with_reducible exact HSG.out _ HD0.out) | (with_reducible exact HSG.out _ (by assumption)) | fail)
            (first
            | (go_at_call 39; (with_reducible refine (HSK.out _ (by first | exact HD0.out | assumption)).mono ?_); rintro e w3 ⟨rfl, hb3⟩; have hb4 := belowStep (a := wz) hb3 (by first | exact HD0.out | assumption))
            | fail)
          all_goals
            have HOD := Lib.hid (HO.out.below (fun q hq => Nat.lt_of_lt_of_le (HPW.out q hq) HBZ.out.size) hb4)
            have HBD := Lib.hid (belowStep hb4 HBZ.out)
            clear hb3 hb4 HO HBZ HSK HSG HD0
            have HO := HOD
            have HBZ := HBD
            clear HOD HBD
            rename World => wz
            cases r
            · have HTT2 := Lib.hid (HTT.out.trans (by rw [if_neg (by simp)]))
              obtain ⟨f0, f1, e2, e3⟩ := HPT.out wz HBZ.out
              go_wp2_with (at_builtin; refine wpList_append_own _ rfl _ _ 29 rfl w1.heap.size 36 iC (.agg #[.string ByteArray.empty, .slice none 0 0]) 2 40 Tryz.underlying29 ci0 ci1 ci2 ci3 rfl (by decide) _ _ _ rfl (HO.out.row.alloc _) ⟨wz.heap.size, 0, none⟩ 1 1 [.string xs, .slice xa xn xc] rfl rfl ?c1x7 ?c2x7 ?c3x7 ?c4x7 ?c5x7 ?_)
              case c1x7 =>
                intro j u hj
                match j, hj with
                | 0, hj => simp at hj; subst hj; simp [Addr.add]
                | 1, hj => simp at hj; subst hj; simp [Addr.add]
                | j + 2, hj => simp at hj
              case c2x7 => first | rfl | (intro u hu; simp at hu; rcases hu with rfl | rfl <;> rfl)
              case c3x7 => have := HPL.out; unfold maxLen; omega
              case c4x7 => have := HPL.out; omega
              case c5x7 => have := HBZ.out.size; simp; omega
              intro v' w8 hown' hgrow _
              have HB1 := Lib.hid ((HBZ.out.alloc HBZ.out.size (.cells #[.string xs, .slice xa xn xc] 36)).grown hgrow (by have := HBZ.out.size; simp; omega) (fun j hj => (HO.out.row.lt j hj).1))
              have HO1 := Lib.hid (CC.push (c := (xs, xk)) HO.out rfl (fun q hq => ⟨Nat.lt_of_lt_of_le (HPW.out q hq) HBZ.out.size, HPW.out q hq⟩) HXS.out (HKX.out wz HBZ.out) hown' hgrow)
              rw [HTT2.out.symm] at HO1
              clear hown' hgrow HO f0 f1 e2 e3 hs2
              go_wp2
              go_roundg (gk - 1)
              case measure => omega
              case rel => exact ⟨k + 1, _, by omega, by go_num, by simp [HTD.out], by omega, HO1.out, HB1.out⟩
            · have HTT2 := Lib.hid (HTT.out.trans (by rw [if_pos rfl, List.append_nil]))
              rw [HTT2.out.symm] at HO
              clear hs2
              go_wp2
              go_roundg (gk - 1)
              case measure => omega
              case rel => exact ⟨k + 1, _, by omega, by go_num, by simp [HTD.out], by omega, HO.out, HBZ.out⟩
    · have hkm : k = m := by omega
      subst hkm
      have q5 : decide ((k : Int) < (k : Int)) = false := decide_eq_false (by omega)
      have hta : cs.take k = cs := List.take_of_length_le (by rw [HM.out]; exact Nat.le_refl _)
      rw [hta] at HO HPL ⊢
      have HFI := Lib.hid (show caddL cs (s, ck) = cpre (s, ck) cs false ++ (if cdone (s, ck) cs false = true then [] else [(s, ck)]) from rfl)
      generalize cdone (s, ck) cs false = dn at *
      generalize cpre (s, ck) cs false = PRE at *
      clear hta
      rename World => wz
      obtain ⟨e2, e3⟩ := HBC.out wz HBZ.out
      cases dn
      · replace HFI := Lib.hid (show caddL cs (s, ck) = PRE ++ [(s, ck)] from by rw [HFI.out]; rfl)
        go_wp2_with (at_builtin; refine wpList_append_own _ rfl _ _ 29 rfl w1.heap.size 36 iC (.agg #[.string ByteArray.empty, .slice none 0 0]) 2 40 Tryz.underlying29 ci0 ci1 ci2 ci3 rfl (by decide) _ _ _ rfl (HO.out.row.alloc _) ⟨wz.heap.size, 0, none⟩ 1 1 [.string s, .slice ka kn kc] rfl rfl ?c1x8 ?c2x8 ?c3x8 ?c4x8 ?c5x8 ?_)
        case c1x8 =>
          intro j u hj
          match j, hj with
          | 0, hj => simp at hj; subst hj; simp [Addr.add]
          | 1, hj => simp at hj; subst hj; simp [Addr.add]
          | j + 2, hj => simp at hj
        case c2x8 => first | rfl | (intro u hu; simp at hu; rcases hu with rfl | rfl <;> rfl)
        case c3x8 => have := HPL.out; unfold maxLen; omega
        case c4x8 => have := HPL.out; omega
        case c5x8 => have := HBZ.out.size; simp; omega
        intro v' w8 hown' hgrow _
        have HB1 := Lib.hid ((HBZ.out.alloc HBZ.out.size (.cells #[.string s, .slice ka kn kc] 36)).grown hgrow (by have := HBZ.out.size; simp; omega) (fun j hj => (HO.out.row.lt j hj).1))
        have HO1 := Lib.hid (CC.push (c := (s, ck)) HO.out rfl (fun q hq => ⟨Nat.lt_of_lt_of_le (HPW.out q hq) HBZ.out.size, HPW.out q hq⟩) HSS.out (HKC.out wz HBZ.out) hown' hgrow)
        rw [← HFI.out] at HO1
        have HE := Lib.hid (HO1.out.slice (S := Ext P w w8) (fun q hq => .inl hq) (fun q h1 h2 => .inr ⟨by have := HSZ.out; omega, h2⟩))
        have HBE := Lib.hid (HBW0.out.trans (HB1.out.mono HBW0.out.size))
        clear hown' hgrow HO e2 e3
        go_wp2
        go_ret
        exact ⟨⟨_, rfl, HE.out⟩, HBE.out⟩
      · replace HFI := Lib.hid (show caddL cs (s, ck) = PRE from by rw [HFI.out]; simp)
        rw [← HFI.out] at HO
        have HE := Lib.hid (HO.out.slice (S := Ext P w wz) (fun q hq => .inl hq) (fun q h1 h2 => .inr ⟨by have := HSZ.out; omega, h2⟩))
        have HBE := Lib.hid (HBW0.out.trans (HBZ.out.mono HBW0.out.size))
        clear e2 e3
        go_wp2
        go_ret
        exact ⟨⟨_, rfl, HE.out⟩, HBE.out⟩
end Go.Proofs.YtpkgiemdnfbopaaGreat
namespace Go.Proofs.YtpkgiemdnfbopaaGreat
open Go Go.RowKit
open Pl (K Con)
set_option linter.unusedSimpArgs false
set_option linter.unusedVariables false

theorem fold_take (f : List (ByteArray × K) → Con → List (ByteArray × K)) (l : List Con) (cs : List (ByteArray × K)) (k : Nat) (h : k < l.length) : (l.take (k + 1)).foldl f cs = f ((l.take k).foldl f cs) l[k] := by
  rw [List.take_succ_eq_append_getElem h, List.foldl_append]
  rfl
theorem putC_fold_len (l : List Con) : ∀ (cs : List (ByteArray × K)), (l.foldl (fun a x => Con.putC x a) cs).length ≤ cs.length + Con.sizes l := by
  induction l with
  | nil => intro cs; simp [Con.sizes]
  | cons x r ihr =>
    intro cs
    rw [List.foldl_cons, Con.sizes_cons]
    have h1 := ihr (Con.putC x cs)
    have h2 := putC_len x cs
    omega
theorem sizes_take (l : List Con) (k : Nat) (h : k < l.length) : Con.sizes (l.take k) + l[k].size ≤ Con.sizes l := by
  have e : l = l.take k ++ l.drop k := (List.take_append_drop k l).symm
  have : ∀ a b : List Con, Con.sizes (a ++ b) = Con.sizes a + Con.sizes b := by
    intro a b
    induction a with
    | nil => simp [Con.sizes]
    | cons x r ih => rw [List.cons_append, Con.sizes_cons, Con.sizes_cons, ih]; omega
  have h2 := this (l.take k) (l.drop k)
  rw [← e] at h2
  rw [List.drop_eq_getElem_cons h, Con.sizes_cons] at h2
  omega
set_option maxRecDepth 100000 in
set_option maxHeartbeats 4000000 in
theorem rconsts_any (t : Con) : ∀ (P : Nat → Prop) (cs : List (ByteArray × K)) (w : World) (v xv : Value), (∀ q, P q → q < w.heap.size) → ConV w P t v → CstSl w P xv cs → cs.length + t.size ≤ 1000000 →
    Calls Tryz.prog 71 #[xv, v] w (CstP P (Con.putC t cs) w) := by
  induction t using Con.ind with
  | h t ih =>
  intro P cs w v xv hP ht hl hlen
  by_cases h2 : t.op = 2
  · rw [putC_const t cs h2]
    exact rconstsA_any P t h2 cs w v xv hP ht hl (by omega)
  have HIH := Lib.hid (fun (i : Nat) (hi : i < t.l.length) => ih t.l[i] (List.getElem_mem hi))
  have HP := Lib.hid hP
  have HCV := Lib.hid (fun W (hW : Same P w W) => ht.keep hW)
  have HV := Lib.hid (putC_node t cs h2)
  have HLE := Lib.hid (fun k (h : k < t.l.length) => (show ((t.l.take k).foldl (fun a x => Con.putC x a) cs).length + t.l[k].size ≤ 1000000 from by
    have h1 := putC_fold_len (t.l.take k) cs
    have h3 := sizes_take t.l k h
    have h4 := Con.size_eq t
    omega))
  obtain ⟨ka, kn, kc, na, nn, nc, la, ln, lc, rfl, -, -, hln⟩ := ht.shape
  have HLN := Lib.hid hln
  have hll : ln ≤ 9223372036854775807 := by
    have := Con.length_le_sizes t.l
    have := Con.size_eq t
    omega
  have HCL0 := Lib.hid hl
  obtain ⟨ea, ec, rfl, -⟩ := hl
  have q1 : (t.op == 2) = false := by simpa using h2
  generalize hF : (fun (a : List (ByteArray × K)) (x : Con) => Con.putC x a) = F at *
  have HFF := Lib.hid (show ∀ a x, Con.putC x a = F a x from fun a x => by rw [← hF])
  generalize t.op = op at *
  generalize t.n = num at *
  generalize t.s = s at *
  obtain ⟨hbx, hb⟩ := boxN_new w 28 #[.int .i64 op, .int .i64 num, .string s, .slice ka kn kc, .slice na nn nc, .slice la ln lc]
  have c0 := hbx.cell 0 (.int .i64 op) rfl
  have HBX := Lib.hid hbx
  have HBW0 := Lib.hid hb
  have hsz1 : (w.alloc (.cells #[.int .i64 op, .int .i64 num, .string s, .slice ka kn kc, .slice na nn nc, .slice la ln lc] 28)).heap.size = w.heap.size + 1 := size_alloc _ _
  clear hbx hb hln hP ht h2 ih hF hlen
  go_enter Tryz.func71, Tryz.ntmps71
  go_wp2_with fail
  clear c0 q1
  generalize w.alloc (.cells #[.int .i64 op, .int .i64 num, .string s, .slice ka kn kc, .slice na nn nc, .slice la ln lc] 28) = w1 at *
  have HSZ := Lib.hid hsz1
  clear hsz1
  have HPW := Lib.hid (fun q (hq : P q) => (show q < w1.heap.size from by have := HP.out q hq; have := HSZ.out; omega))
  have HS1 := Lib.hid (show Same P w w1 from Same.of_below HBW0.out HP.out)
  go_loopg [0, 8] (ln + 1) (fun gk lv i wr => ∃ (k : Nat), k ≤ ln ∧ i = .int .i64 k ∧ gk = ln + 1 - k ∧ CstSl wr (fun q => P q ∨ (w1.heap.size ≤ q ∧ q < wr.heap.size)) lv ((t.l.take k).foldl F cs) ∧ Below w1.heap.size w1 wr)
  case atStart => exact ⟨0, Nat.zero_le _, rfl, by omega, by rw [List.take_zero]; exact (HCL0.out.keep HS1.out).mono (fun q hq => .inl hq), Below.refl _ _⟩
  case round =>
    obtain ⟨k, hk, rfl, hgk, hcl, hbr⟩ := hrel
    have HBR := Lib.hid hbr
    have HSR := Lib.hid (show Same P w wr from fun q hq => (hbr.block q (HPW.out q hq)).trans (HS1.out q hq))
    have HCS := Lib.hid hcl
    have hbx := HBX.out.of_eq (hbr.block _ HBX.out.lt)
    clear hbr
    by_cases hlt : k < ln
    · have hkl : k < t.l.length := by rw [← HLN.out]; exact hlt
      have q5 : decide ((k : Int) < (ln : Int)) = true := decide_eq_true (by omega)
      have q6 : decide ((k : Int) < 0) = false := decide_eq_false (by omega)
      have q7 : decide ((ln : Int) ≤ (k : Int)) = false := decide_eq_false (by omega)
      obtain ⟨eb, off, c', ya, yn, yc, za, zn, zc, pa, pn, pc, e, hpb, f0, f1, f2, f3, f4, f5, hx⟩ := (con_list (HCV.out wr HSR.out)).part k hkl
      injection e with e1 e2 e3
      subst e1 e3
      clear e2
      have HC := Lib.hid (HIH.out k hkl (fun q => P q ∨ (w1.heap.size ≤ q ∧ q < wr.heap.size)) ((t.l.take k).foldl F cs) wr _ _ (fun q hq => by
        rcases hq with hq | hq
        · exact Nat.lt_of_lt_of_le (HPW.out q hq) HBR.out.size
        · exact hq.2) (hx.mono (fun q hq => .inl hq)) hcl (HLE.out k hkl))
      have HTK := Lib.hid (show (t.l.take (k + 1)).foldl F cs = Con.putC t.l[k] ((t.l.take k).foldl F cs) from by rw [fold_take F t.l cs k hkl, HFF.out])
      rw [← HTK.out] at HC
      have c5 := hbx.cell 5 (.slice (some ⟨eb, off, none⟩) ln lc) rfl
      generalize t.l[k].op = op2 at *
      generalize t.l[k].n = num2 at *
      generalize t.l[k].s = s2 at *
      obtain ⟨va, vc, rfl, -⟩ := hcl
      generalize ((t.l.take k).foldl F cs).length = vn at *
      clear hx hpb hbx HTK HCS HIH
      go_wp2_with fail
      refine HC.out.mono ?_
      rintro e w3 ⟨⟨y, rfl, hy⟩, hb3⟩
      have HB3 := Lib.hid (belowStep hb3 HBR.out)
      have HY := Lib.hid (hy.mono (Q := fun q => P q ∨ (w1.heap.size ≤ q ∧ q < w3.heap.size)) (fun q hq => by
        have h1 := hb3.size
        have h2 := HBR.out.size
        rcases hq with (hq | hq) | hq
        · exact .inl hq
        · exact .inr ⟨hq.1, by omega⟩
        · exact .inr ⟨by omega, hq.2⟩))
      clear hy hb3 f0 f1 f2 f3 f4 f5 c5 HC
      go_wp2
      go_roundg (gk - 1)
      case measure => omega
      case rel => exact ⟨k + 1, by omega, by go_num, by omega, HY.out, HB3.out⟩
    · have hkn : k = ln := by omega
      subst hkn
      have q5 : decide ((k : Int) < (k : Int)) = false := decide_eq_false (by omega)
      have hta : t.l.take k = t.l := List.take_of_length_le (by rw [HLN.out]; exact Nat.le_refl _)
      rw [hta] at hcl
      have HE := Lib.hid (show CstSl wr (Ext P w wr) _ (Con.putC t cs) from by
        rw [HV.out]
        exact hcl.mono (fun q hq => by
          rcases hq with hq | hq
          · exact .inl hq
          · exact .inr ⟨by have := HSZ.out; omega, hq.2⟩))
      have HBE := Lib.hid (HBW0.out.trans (HBR.out.mono HBW0.out.size))
      have c5 := hbx.cell 5 (.slice la k lc) rfl
      clear hcl hta hbx HCS
      go_wp2
      go_ret
      exact ⟨⟨_, rfl, HE.out⟩, HBE.out⟩
end Go.Proofs.YtpkgiemdnfbopaaGreat
namespace Go.Proofs.YtpkgiemdnfbopaaGreat
open Go Go.RowKit
open Pl (K Con)
set_option linter.unusedSimpArgs false
set_option linter.unusedVariables false

theorem CstSl.none9 (w : World) (P : Nat → Prop) : CstSl w P (.slice none 0 0) [] := ⟨none, 0, rfl, Nat.le_refl _, Nat.zero_le _, fun _ => rfl, .inl rfl⟩
/-- the constants, and none if two have one name -/
def Con.consL (t : Con) : List (ByteArray × K) := if distB (Con.putC t []) = true then Con.putC t [] else []
def Con.consB (t : Con) : Bool := distB (Con.putC t [])
def ConsP (P : Nat → Prop) (t : Con) (w : World) (e : Ending) (w' : World) : Prop := (∃ y, e = .returned (.tuple #[y, .bool (Con.consB t)]) ∧ CstSl w' (Ext P w w') y (Con.consL t)) ∧ Below w.heap.size w w'
set_option maxRecDepth 100000 in
set_option maxHeartbeats 1000000 in
theorem rConsts_any (P : Nat → Prop) (t : Con) (w : World) (v : Value) (hP : ∀ q, P q → q < w.heap.size) (ht : ConV w P t v) (hlen : t.size ≤ 1000000) :
    Calls Tryz.prog 17 #[v] w (ConsP P t w) := by
  have HP := Lib.hid hP
  have HCV := Lib.hid (fun W (hW : Below w.heap.size w W) => rconsts_any t P [] W v (.slice none 0 0) (fun q hq => Nat.lt_of_lt_of_le (hP q hq) hW.size) (ht.keep (Same.of_below hW hP)) (CstSl.none9 _ _) (by simpa using hlen))
  have HC1 := Lib.hid (show Con.consL t = if distB (Con.putC t []) = true then Con.putC t [] else [] from rfl)
  have HC2 := Lib.hid (show Con.consB t = distB (Con.putC t []) from rfl)
  obtain ⟨ka, kn, kc, na, nn, nc, la, ln, lc, rfl, -, -, -⟩ := ht.shape
  generalize Con.putC t [] = cs at *
  obtain ⟨hbx, hb⟩ := boxN_new w 28 #[.int .i64 t.op, .int .i64 t.n, .string t.s, .slice ka kn kc, .slice na nn nc, .slice la ln lc]
  have c0 := hbx.cell 0 (.int .i64 t.op) rfl
  have c1 := hbx.cell 1 (.int .i64 t.n) rfl
  have c2 := hbx.cell 2 (.string t.s) rfl
  have c3 := hbx.cell 3 (.slice ka kn kc) rfl
  have c4 := hbx.cell 4 (.slice na nn nc) rfl
  have c5 := hbx.cell 5 (.slice la ln lc) rfl
  have HB := Lib.hid hb
  clear hbx hb ht hP
  go_enter Tryz.func17, Tryz.ntmps17
  go_wp2_with fail
  clear c0 c1 c2 c3 c4 c5
  refine (HCV.out _ HB.out).mono ?_
  rintro e w2 ⟨⟨y, rfl, hy⟩, hb2⟩
  have HY := Lib.hid hy
  have HB2 := Lib.hid (belowStep hb2 HB.out)
  have HB0 := Lib.hid hb2
  have HD := Lib.hid (rdistinct_any _ cs w2 y (fun q hq => by
    have h1 := hb2.size
    have h3 := HB.out.size
    rcases hq with hq | hq
    · have := HP.out q hq; omega
    · exact hq.2) hy)
  have hyv : ∃ a c, y = .slice a cs.length c := by obtain ⟨a, c, e, -⟩ := hy; exact ⟨a, c, e⟩
  obtain ⟨ya, yc, rfl⟩ := hyv
  generalize cs.length = yn at *
  clear hy hb2
  go_wp2_with fail
  refine HD.out.mono ?_
  rintro e w3 ⟨rfl, hb3⟩
  have HE := Lib.hid (show ConsP P t w (.returned (.tuple #[distV cs (.slice ya yn yc), .bool (distB cs)])) w3 from by
    refine ⟨⟨_, by rw [HC2.out], ?_⟩, belowStep hb3 HB2.out⟩
    rw [HC1.out]
    unfold distV
    by_cases h : distB cs = true
    · rw [if_pos h, if_pos h]
      refine (HY.out.keep (Same.of_below hb3 (fun q hq => by
        have h1 := HB0.out.size
        have h3 := HB.out.size
        rcases hq with hq | hq
        · have := HP.out q hq; omega
        · exact hq.2))).mono (fun q hq => ?_)
      have h1 := hb3.size
      have h3 := HB.out.size
      rcases hq with hq | hq
      · exact .inl hq
      · exact .inr ⟨by omega, by omega⟩
    · rw [if_neg h, if_neg h]
      exact CstSl.none9 _ _)
  generalize distV cs (.slice ya yn yc) = dv at *
  generalize distB cs = db at *
  clear hb3 HD HY HB2
  go_wp2
  refine bodyPost_ret (v := .tuple #[dv, .bool db]) (by simp [results, Tryz.results17, go_sem]) rfl ?_
  exact HE.out
end Go.Proofs.YtpkgiemdnfbopaaGreat
