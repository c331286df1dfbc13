/-
  Walks and plain mathematics, several texts in one (Lj).
-/
import Derived.Test.YtkmgnibopmpcjaaGreatDoorH5
/-
  Walks of layer 2: a token.
-/
namespace Go.Proofs.YtkmgnibopmpcjaaGreatDoor
open Go.RowKit
def TokenPost (b : Nat) (s : ByteArray) (n : Nat) (li st lim : Int) (w : World) (t : Pl.Tk) (e : Ending) (w' : World) : Prop :=
  ∃ m p : Nat, (t.err = 0 → m = n + t.len) ∧ (t.err ≠ 0 → p = n + t.pos) ∧ e = .returned (.tuple #[.agg (tkc t.kind (Pl.mk t.text) 0 0), .int .i64 p, .int .i64 t.err]) ∧ Rd w' b s m li st lim ∧ Only b w w'
set_option maxRecDepth 100000 in
set_option maxHeartbeats 1000000 in
theorem token_small (b : Nat) (s : ByteArray) (n : Nat) (li st lim : Int) (w : World) (T : Pl.Tk) (h : Rd w b s n li st lim) (hn : n < s.size) (hpos : T.pos = 0) (q0 : Pl.small (s[n].toNat : Int) = true)
    (hcall : ∀ W, Rd W b s n li st lim → Calls Tryz.prog 165 #[.pointer (some ⟨b, 0, none⟩)] W (TokPost b s n li st lim W T)) :
    Calls Tryz.prog 99 #[.pointer (some ⟨b, 0, none⟩)] w (TokenPost b s n li st lim w T) := by
  have HP := Lib.hid hpos
  clear hpos
  have hr := h.alloc (.cells #[.int .i64 0, .string ⟨#[]⟩, .int .i64 0, .int .i64 0] 41)
  have hk := blk_new w #[.int .i64 0, .string ⟨#[]⟩, .int .i64 0, .int .i64 0] 41
  have ho : Only b w (w.alloc (.cells #[.int .i64 0, .string ⟨#[]⟩, .int .i64 0, .int .i64 0] 41)) := (Only.refl b w).alloc _
  have hlt := h.lt
  have hne : b ≠ w.heap.size := Nat.ne_of_lt hlt
  have c0 := hr.c0
  have c1 := hr.c1
  have HC := Lib.hid hcall
  clear h hcall
  go_enter Tryz.func99, Tryz.ntmps99
  go_wp2
  generalize w.alloc (.cells #[.int .i64 0, .string ⟨#[]⟩, .int .i64 0, .int .i64 0] 41) = w0 at hr hk ho c0 c1 ⊢
  have HR := Lib.hid hr
  have HK := Lib.hid hk
  have HO := Lib.hid ho
  clear hr hk ho
  go_quiet (fail)
  clear c0 c1
  go_wp2_with (first | (go_at_call 163; refine (isSmall_any _ _).mono ?_; rintro e w' ⟨rfl, rfl⟩) | (go_at_call 164; refine (isCapital_any _ _).mono ?_; rintro e w' ⟨rfl, rfl⟩) | (go_at_call 167; refine (isDigit_any _ _).mono ?_; rintro e w' ⟨rfl, rfl⟩))
  refine (HC.out _ (HR.out.drewN _)).mono ?_
  rintro e w1 hpost
  obtain ⟨m, hm, rfl, hr1, ho1⟩ := hpost
  have hk1 := ho1.blk (HK.out.drewN _) hne.symm
  have HR1 := Lib.hid hr1
  have HK1 := Lib.hid hk1
  have HO1 := Lib.hid ((HO.out.drewN _).trans ho1)
  have HM := Lib.hid hm
  obtain ⟨d0, d1, d2, d3, e0, e1, e2, e3⟩ := tkAt_of hk1
  clear hr1 hk1 ho1 hm
  generalize hkd : T.kind = kd
  generalize htx : Pl.mk T.text = tx
  generalize her : T.err = er
  have HKD := Lib.hid hkd
  have HTX := Lib.hid htx
  have HER := Lib.hid her
  clear hkd htx her
  unfold tkc
  go_wp2
  have hput := tk_put (tk_put HK1.out (.int .i64 kd) (.string tx) (.int .i64 0) (.int .i64 0)) (.int .i64 kd) (.string tx) (.int .i64 0) (.int .i64 0)
  obtain ⟨f0, f1, f2, f3, -, -, -, -⟩ := tkAt_of hput
  refine bodyPost_ret (v := .tuple #[.agg (tkc kd tx 0 0), .int .i64 n, .int .i64 er]) (by simp [results, Tryz.results99, go_sem, f0, f1, f2, f3, tkc]) rfl ?_
  exact ⟨m, n, HM.out, fun _ => by rw [HP.out]; rfl, by rw [HKD.out, HTX.out, HER.out], rd_put (rd_put HR1.out hne _ _ _ _) hne _ _ _ _, only_put (only_put HO1.out (Nat.le_refl _) _ _ _ _) (Nat.le_refl _) _ _ _ _⟩
set_option maxRecDepth 100000 in
set_option maxHeartbeats 1000000 in
theorem token_capital (b : Nat) (s : ByteArray) (n : Nat) (li st lim : Int) (w : World) (T : Pl.Tk) (h : Rd w b s n li st lim) (hn : n < s.size) (hpos : T.pos = 0) (q0 : Pl.small (s[n].toNat : Int) = false) (q1 : Pl.capital (s[n].toNat : Int) = true)
    (hcall : ∀ W, Rd W b s n li st lim → Calls Tryz.prog 165 #[.pointer (some ⟨b, 0, none⟩)] W (TokPost b s n li st lim W T)) :
    Calls Tryz.prog 99 #[.pointer (some ⟨b, 0, none⟩)] w (TokenPost b s n li st lim w T) := by
  have HP := Lib.hid hpos
  clear hpos
  have hr := h.alloc (.cells #[.int .i64 0, .string ⟨#[]⟩, .int .i64 0, .int .i64 0] 41)
  have hk := blk_new w #[.int .i64 0, .string ⟨#[]⟩, .int .i64 0, .int .i64 0] 41
  have ho : Only b w (w.alloc (.cells #[.int .i64 0, .string ⟨#[]⟩, .int .i64 0, .int .i64 0] 41)) := (Only.refl b w).alloc _
  have hlt := h.lt
  have hne : b ≠ w.heap.size := Nat.ne_of_lt hlt
  have c0 := hr.c0
  have c1 := hr.c1
  have HC := Lib.hid hcall
  clear h hcall
  go_enter Tryz.func99, Tryz.ntmps99
  go_wp2
  generalize w.alloc (.cells #[.int .i64 0, .string ⟨#[]⟩, .int .i64 0, .int .i64 0] 41) = w0 at hr hk ho c0 c1 ⊢
  have HR := Lib.hid hr
  have HK := Lib.hid hk
  have HO := Lib.hid ho
  clear hr hk ho
  go_quiet (fail)
  clear c0 c1
  go_wp2_with (first | (go_at_call 163; refine (isSmall_any _ _).mono ?_; rintro e w' ⟨rfl, rfl⟩) | (go_at_call 164; refine (isCapital_any _ _).mono ?_; rintro e w' ⟨rfl, rfl⟩) | (go_at_call 167; refine (isDigit_any _ _).mono ?_; rintro e w' ⟨rfl, rfl⟩))
  refine (HC.out _ (HR.out.drewN _)).mono ?_
  rintro e w1 hpost
  obtain ⟨m, hm, rfl, hr1, ho1⟩ := hpost
  have hk1 := ho1.blk (HK.out.drewN _) hne.symm
  have HR1 := Lib.hid hr1
  have HK1 := Lib.hid hk1
  have HO1 := Lib.hid ((HO.out.drewN _).trans ho1)
  have HM := Lib.hid hm
  obtain ⟨d0, d1, d2, d3, e0, e1, e2, e3⟩ := tkAt_of hk1
  clear hr1 hk1 ho1 hm
  generalize hkd : T.kind = kd
  generalize htx : Pl.mk T.text = tx
  generalize her : T.err = er
  have HKD := Lib.hid hkd
  have HTX := Lib.hid htx
  have HER := Lib.hid her
  clear hkd htx her
  unfold tkc
  go_wp2
  have hput := tk_put (tk_put HK1.out (.int .i64 kd) (.string tx) (.int .i64 0) (.int .i64 0)) (.int .i64 kd) (.string tx) (.int .i64 0) (.int .i64 0)
  obtain ⟨f0, f1, f2, f3, -, -, -, -⟩ := tkAt_of hput
  refine bodyPost_ret (v := .tuple #[.agg (tkc kd tx 0 0), .int .i64 n, .int .i64 er]) (by simp [results, Tryz.results99, go_sem, f0, f1, f2, f3, tkc]) rfl ?_
  exact ⟨m, n, HM.out, fun _ => by rw [HP.out]; rfl, by rw [HKD.out, HTX.out, HER.out], rd_put (rd_put HR1.out hne _ _ _ _) hne _ _ _ _, only_put (only_put HO1.out (Nat.le_refl _) _ _ _ _) (Nat.le_refl _) _ _ _ _⟩
set_option maxRecDepth 100000 in
set_option maxHeartbeats 1000000 in
theorem token_var (b : Nat) (s : ByteArray) (n : Nat) (li st lim : Int) (w : World) (T : Pl.Tk) (h : Rd w b s n li st lim) (hn : n < s.size) (hpos : T.pos = 0) (q0 : Pl.small (s[n].toNat : Int) = false) (q1 : Pl.capital (s[n].toNat : Int) = false) (q2 : ((s[n].toNat : Int) == 39) = true)
    (hcall : ∀ W, Rd W b s n li st lim → Calls Tryz.prog 166 #[.pointer (some ⟨b, 0, none⟩)] W (TokPost b s n li st lim W T)) :
    Calls Tryz.prog 99 #[.pointer (some ⟨b, 0, none⟩)] w (TokenPost b s n li st lim w T) := by
  have HP := Lib.hid hpos
  clear hpos
  have hr := h.alloc (.cells #[.int .i64 0, .string ⟨#[]⟩, .int .i64 0, .int .i64 0] 41)
  have hk := blk_new w #[.int .i64 0, .string ⟨#[]⟩, .int .i64 0, .int .i64 0] 41
  have ho : Only b w (w.alloc (.cells #[.int .i64 0, .string ⟨#[]⟩, .int .i64 0, .int .i64 0] 41)) := (Only.refl b w).alloc _
  have hlt := h.lt
  have hne : b ≠ w.heap.size := Nat.ne_of_lt hlt
  have c0 := hr.c0
  have c1 := hr.c1
  have HC := Lib.hid hcall
  clear h hcall
  go_enter Tryz.func99, Tryz.ntmps99
  go_wp2
  generalize w.alloc (.cells #[.int .i64 0, .string ⟨#[]⟩, .int .i64 0, .int .i64 0] 41) = w0 at hr hk ho c0 c1 ⊢
  have HR := Lib.hid hr
  have HK := Lib.hid hk
  have HO := Lib.hid ho
  clear hr hk ho
  go_quiet (fail)
  clear c0 c1
  go_wp2_with (first | (go_at_call 163; refine (isSmall_any _ _).mono ?_; rintro e w' ⟨rfl, rfl⟩) | (go_at_call 164; refine (isCapital_any _ _).mono ?_; rintro e w' ⟨rfl, rfl⟩) | (go_at_call 167; refine (isDigit_any _ _).mono ?_; rintro e w' ⟨rfl, rfl⟩))
  refine (HC.out _ (HR.out.drewN _)).mono ?_
  rintro e w1 hpost
  obtain ⟨m, hm, rfl, hr1, ho1⟩ := hpost
  have hk1 := ho1.blk (HK.out.drewN _) hne.symm
  have HR1 := Lib.hid hr1
  have HK1 := Lib.hid hk1
  have HO1 := Lib.hid ((HO.out.drewN _).trans ho1)
  have HM := Lib.hid hm
  obtain ⟨d0, d1, d2, d3, e0, e1, e2, e3⟩ := tkAt_of hk1
  clear hr1 hk1 ho1 hm
  generalize hkd : T.kind = kd
  generalize htx : Pl.mk T.text = tx
  generalize her : T.err = er
  have HKD := Lib.hid hkd
  have HTX := Lib.hid htx
  have HER := Lib.hid her
  clear hkd htx her
  unfold tkc
  go_wp2
  have hput := tk_put (tk_put HK1.out (.int .i64 kd) (.string tx) (.int .i64 0) (.int .i64 0)) (.int .i64 kd) (.string tx) (.int .i64 0) (.int .i64 0)
  obtain ⟨f0, f1, f2, f3, -, -, -, -⟩ := tkAt_of hput
  refine bodyPost_ret (v := .tuple #[.agg (tkc kd tx 0 0), .int .i64 n, .int .i64 er]) (by simp [results, Tryz.results99, go_sem, f0, f1, f2, f3, tkc]) rfl ?_
  exact ⟨m, n, HM.out, fun _ => by rw [HP.out]; rfl, by rw [HKD.out, HTX.out, HER.out], rd_put (rd_put HR1.out hne _ _ _ _) hne _ _ _ _, only_put (only_put HO1.out (Nat.le_refl _) _ _ _ _) (Nat.le_refl _) _ _ _ _⟩
set_option maxRecDepth 100000 in
set_option maxHeartbeats 1000000 in
theorem token_digit (b : Nat) (s : ByteArray) (n : Nat) (li st lim : Int) (w : World) (T : Pl.Tk) (h : Rd w b s n li st lim) (hn : n < s.size) (hpos : T.pos = 0) (q0 : Pl.small (s[n].toNat : Int) = false) (q1 : Pl.capital (s[n].toNat : Int) = false) (q2 : ((s[n].toNat : Int) == 39) = false) (q3 : Pl.digit (s[n].toNat : Int) = true)
    (hcall : ∀ W, Rd W b s n li st lim → Calls Tryz.prog 168 #[.pointer (some ⟨b, 0, none⟩)] W (TokPost b s n li st lim W T)) :
    Calls Tryz.prog 99 #[.pointer (some ⟨b, 0, none⟩)] w (TokenPost b s n li st lim w T) := by
  have HP := Lib.hid hpos
  clear hpos
  have hr := h.alloc (.cells #[.int .i64 0, .string ⟨#[]⟩, .int .i64 0, .int .i64 0] 41)
  have hk := blk_new w #[.int .i64 0, .string ⟨#[]⟩, .int .i64 0, .int .i64 0] 41
  have ho : Only b w (w.alloc (.cells #[.int .i64 0, .string ⟨#[]⟩, .int .i64 0, .int .i64 0] 41)) := (Only.refl b w).alloc _
  have hlt := h.lt
  have hne : b ≠ w.heap.size := Nat.ne_of_lt hlt
  have c0 := hr.c0
  have c1 := hr.c1
  have HC := Lib.hid hcall
  clear h hcall
  go_enter Tryz.func99, Tryz.ntmps99
  go_wp2
  generalize w.alloc (.cells #[.int .i64 0, .string ⟨#[]⟩, .int .i64 0, .int .i64 0] 41) = w0 at hr hk ho c0 c1 ⊢
  have HR := Lib.hid hr
  have HK := Lib.hid hk
  have HO := Lib.hid ho
  clear hr hk ho
  go_quiet (fail)
  clear c0 c1
  go_wp2_with (first | (go_at_call 163; refine (isSmall_any _ _).mono ?_; rintro e w' ⟨rfl, rfl⟩) | (go_at_call 164; refine (isCapital_any _ _).mono ?_; rintro e w' ⟨rfl, rfl⟩) | (go_at_call 167; refine (isDigit_any _ _).mono ?_; rintro e w' ⟨rfl, rfl⟩))
  refine (HC.out _ (HR.out.drewN _)).mono ?_
  rintro e w1 hpost
  obtain ⟨m, hm, rfl, hr1, ho1⟩ := hpost
  have hk1 := ho1.blk (HK.out.drewN _) hne.symm
  have HR1 := Lib.hid hr1
  have HK1 := Lib.hid hk1
  have HO1 := Lib.hid ((HO.out.drewN _).trans ho1)
  have HM := Lib.hid hm
  obtain ⟨d0, d1, d2, d3, e0, e1, e2, e3⟩ := tkAt_of hk1
  clear hr1 hk1 ho1 hm
  generalize hkd : T.kind = kd
  generalize htx : Pl.mk T.text = tx
  generalize her : T.err = er
  have HKD := Lib.hid hkd
  have HTX := Lib.hid htx
  have HER := Lib.hid her
  clear hkd htx her
  unfold tkc
  go_wp2
  have hput := tk_put (tk_put HK1.out (.int .i64 kd) (.string tx) (.int .i64 0) (.int .i64 0)) (.int .i64 kd) (.string tx) (.int .i64 0) (.int .i64 0)
  obtain ⟨f0, f1, f2, f3, -, -, -, -⟩ := tkAt_of hput
  refine bodyPost_ret (v := .tuple #[.agg (tkc kd tx 0 0), .int .i64 n, .int .i64 er]) (by simp [results, Tryz.results99, go_sem, f0, f1, f2, f3, tkc]) rfl ?_
  exact ⟨m, n, HM.out, fun _ => by rw [HP.out]; rfl, by rw [HKD.out, HTX.out, HER.out], rd_put (rd_put HR1.out hne _ _ _ _) hne _ _ _ _, only_put (only_put HO1.out (Nat.le_refl _) _ _ _ _) (Nat.le_refl _) _ _ _ _⟩
set_option maxRecDepth 100000 in
set_option maxHeartbeats 1000000 in
theorem token_symbol (b : Nat) (s : ByteArray) (n : Nat) (li st lim : Int) (w : World) (T : Pl.Tk) (h : Rd w b s n li st lim) (hn : n < s.size) (hpos : T.pos = 0) (q0 : Pl.small (s[n].toNat : Int) = false) (q1 : Pl.capital (s[n].toNat : Int) = false) (q2 : ((s[n].toNat : Int) == 39) = false) (q3 : Pl.digit (s[n].toNat : Int) = false) (q4 : ((s[n].toNat : Int) == 34) = false)
    (hcall : ∀ W, Rd W b s n li st lim → Calls Tryz.prog 170 #[.pointer (some ⟨b, 0, none⟩)] W (TokPost b s n li st lim W T)) :
    Calls Tryz.prog 99 #[.pointer (some ⟨b, 0, none⟩)] w (TokenPost b s n li st lim w T) := by
  have HP := Lib.hid hpos
  clear hpos
  have hr := h.alloc (.cells #[.int .i64 0, .string ⟨#[]⟩, .int .i64 0, .int .i64 0] 41)
  have hk := blk_new w #[.int .i64 0, .string ⟨#[]⟩, .int .i64 0, .int .i64 0] 41
  have ho : Only b w (w.alloc (.cells #[.int .i64 0, .string ⟨#[]⟩, .int .i64 0, .int .i64 0] 41)) := (Only.refl b w).alloc _
  have hlt := h.lt
  have hne : b ≠ w.heap.size := Nat.ne_of_lt hlt
  have c0 := hr.c0
  have c1 := hr.c1
  have HC := Lib.hid hcall
  clear h hcall
  go_enter Tryz.func99, Tryz.ntmps99
  go_wp2
  generalize w.alloc (.cells #[.int .i64 0, .string ⟨#[]⟩, .int .i64 0, .int .i64 0] 41) = w0 at hr hk ho c0 c1 ⊢
  have HR := Lib.hid hr
  have HK := Lib.hid hk
  have HO := Lib.hid ho
  clear hr hk ho
  go_quiet (fail)
  clear c0 c1
  go_wp2_with (first | (go_at_call 163; refine (isSmall_any _ _).mono ?_; rintro e w' ⟨rfl, rfl⟩) | (go_at_call 164; refine (isCapital_any _ _).mono ?_; rintro e w' ⟨rfl, rfl⟩) | (go_at_call 167; refine (isDigit_any _ _).mono ?_; rintro e w' ⟨rfl, rfl⟩))
  refine (HC.out _ (HR.out.drewN _)).mono ?_
  rintro e w1 hpost
  obtain ⟨m, hm, rfl, hr1, ho1⟩ := hpost
  have hk1 := ho1.blk (HK.out.drewN _) hne.symm
  have HR1 := Lib.hid hr1
  have HK1 := Lib.hid hk1
  have HO1 := Lib.hid ((HO.out.drewN _).trans ho1)
  have HM := Lib.hid hm
  obtain ⟨d0, d1, d2, d3, e0, e1, e2, e3⟩ := tkAt_of hk1
  clear hr1 hk1 ho1 hm
  generalize hkd : T.kind = kd
  generalize htx : Pl.mk T.text = tx
  generalize her : T.err = er
  have HKD := Lib.hid hkd
  have HTX := Lib.hid htx
  have HER := Lib.hid her
  clear hkd htx her
  unfold tkc
  go_wp2
  have hput := tk_put (tk_put HK1.out (.int .i64 kd) (.string tx) (.int .i64 0) (.int .i64 0)) (.int .i64 kd) (.string tx) (.int .i64 0) (.int .i64 0)
  obtain ⟨f0, f1, f2, f3, -, -, -, -⟩ := tkAt_of hput
  refine bodyPost_ret (v := .tuple #[.agg (tkc kd tx 0 0), .int .i64 n, .int .i64 er]) (by simp [results, Tryz.results99, go_sem, f0, f1, f2, f3, tkc]) rfl ?_
  exact ⟨m, n, HM.out, fun _ => by rw [HP.out]; rfl, by rw [HKD.out, HTX.out, HER.out], rd_put (rd_put HR1.out hne _ _ _ _) hne _ _ _ _, only_put (only_put HO1.out (Nat.le_refl _) _ _ _ _) (Nat.le_refl _) _ _ _ _⟩
set_option maxRecDepth 100000 in
set_option maxHeartbeats 1000000 in
theorem token_text (b : Nat) (s : ByteArray) (n : Nat) (li st lim : Int) (w : World) (T : Pl.Tk) (h : Rd w b s n li st lim) (hn : n < s.size) (q0 : Pl.small (s[n].toNat : Int) = false) (q1 : Pl.capital (s[n].toNat : Int) = false) (q2 : ((s[n].toNat : Int) == 39) = false) (q3 : Pl.digit (s[n].toNat : Int) = false) (q4 : ((s[n].toNat : Int) == 34) = true)
    (hcall : ∀ W, Rd W b s n li st lim → Calls Tryz.prog 169 #[.pointer (some ⟨b, 0, none⟩)] W (TextPost b s n li st lim W T)) :
    Calls Tryz.prog 99 #[.pointer (some ⟨b, 0, none⟩)] w (TokenPost b s n li st lim w T) := by
  have hr := h.alloc (.cells #[.int .i64 0, .string ⟨#[]⟩, .int .i64 0, .int .i64 0] 41)
  have hk := blk_new w #[.int .i64 0, .string ⟨#[]⟩, .int .i64 0, .int .i64 0] 41
  have ho : Only b w (w.alloc (.cells #[.int .i64 0, .string ⟨#[]⟩, .int .i64 0, .int .i64 0] 41)) := (Only.refl b w).alloc _
  have hlt := h.lt
  have hne : b ≠ w.heap.size := Nat.ne_of_lt hlt
  have c0 := hr.c0
  have c1 := hr.c1
  have HC := Lib.hid hcall
  clear h hcall
  go_enter Tryz.func99, Tryz.ntmps99
  go_wp2
  generalize w.alloc (.cells #[.int .i64 0, .string ⟨#[]⟩, .int .i64 0, .int .i64 0] 41) = w0 at hr hk ho c0 c1 ⊢
  have HR := Lib.hid hr
  have HK := Lib.hid hk
  have HO := Lib.hid ho
  clear hr hk ho
  go_quiet (fail)
  clear c0 c1
  go_wp2_with (first | (go_at_call 163; refine (isSmall_any _ _).mono ?_; rintro e w' ⟨rfl, rfl⟩) | (go_at_call 164; refine (isCapital_any _ _).mono ?_; rintro e w' ⟨rfl, rfl⟩) | (go_at_call 167; refine (isDigit_any _ _).mono ?_; rintro e w' ⟨rfl, rfl⟩))
  refine (HC.out _ (HR.out.drewN _)).mono ?_
  rintro e w1 hpost
  obtain ⟨m, p, hm, hp, rfl, hr1, ho1⟩ := hpost
  have hk1 := ho1.blk (HK.out.drewN _) hne.symm
  have HR1 := Lib.hid hr1
  have HK1 := Lib.hid hk1
  have HO1 := Lib.hid ((HO.out.drewN _).trans ho1)
  have HM := Lib.hid hm
  have HP := Lib.hid hp
  obtain ⟨d0, d1, d2, d3, e0, e1, e2, e3⟩ := tkAt_of hk1
  clear hr1 hk1 ho1 hm hp
  generalize hkd : T.kind = kd
  generalize htx : Pl.mk T.text = tx
  generalize her : T.err = er
  have HKD := Lib.hid hkd
  have HTX := Lib.hid htx
  have HER := Lib.hid her
  clear hkd htx her
  unfold tkc
  go_wp2
  obtain ⟨f0, f1, f2, f3, -, -, -, -⟩ := tkAt_of (tk_put HK1.out (.int .i64 kd) (.string tx) (.int .i64 0) (.int .i64 0))
  refine bodyPost_ret (v := .tuple #[.agg (tkc kd tx 0 0), .int .i64 p, .int .i64 er]) (by simp [results, Tryz.results99, go_sem, f0, f1, f2, f3, tkc]) rfl ?_
  exact ⟨m, p, HM.out, fun h => (HP.out h).1, by rw [HKD.out, HTX.out, HER.out], rd_put HR1.out hne _ _ _ _, only_put HO1.out (Nat.le_refl _) _ _ _ _⟩
namespace Pl
theorem nameTok_pos (l : Bytes) : (nameTok l).pos = 0 := by unfold nameTok; split <;> rfl
theorem varTok_pos (l : Bytes) : (varTok l).pos = 0 := by
  unfold varTok
  split
  · split <;> rfl
  · rfl
theorem numTok_pos (l : Bytes) : (numTok l).pos = 0 := by unfold numTok; split <;> rfl
theorem symTok_pos (l : Bytes) : (symTok l).pos = 0 := by unfold symTok; split <;> rfl
theorem headIs_at (p : Int → Bool) (s : ByteArray) (n : Nat) (hn : n < s.size) : headIs p (s.toList.drop n) = p s[n].toNat := by rw [drop_cons s n hn]; rfl
end Pl
theorem token_any (b : Nat) (s : ByteArray) (n : Nat) (li st lim : Int) (w : World) (h : Rd w b s n li st lim) (hn : n < s.size) (hs : s.size ≤ 1000000) :
    Calls Tryz.prog 99 #[.pointer (some ⟨b, 0, none⟩)] w (TokenPost b s n li st lim w (Pl.tok (s.toList.drop n))) := by
  have hm : s.size ≤ maxLen := by unfold maxLen; omega
  have hd : (s.toList.drop n).drop 1 = s.toList.drop (n + 1) := by rw [List.drop_drop]
  unfold Pl.tok
  rw [Pl.headIs_at _ s n hn, Pl.headIs_at _ s n hn, Pl.headIs_at _ s n hn, Pl.headIs_at _ s n hn, Pl.headIs_at _ s n hn, hd]
  cases q0 : Pl.small (s[n].toNat : Int)
  · cases q1 : Pl.capital (s[n].toNat : Int)
    · by_cases h39 : (s[n].toNat : Int) = 39
      · rw [decide_eq_true h39]
        exact token_var b s n li st lim w _ h hn (Pl.varTok_pos _) q0 q1 (by rw [h39]; rfl) fun W hW => variable_any b s n li st lim W hW hn hm
      · have q2 : ((s[n].toNat : Int) == 39) = false := beq_eq_false_iff_ne.2 h39
        rw [decide_eq_false h39]
        cases q3 : Pl.digit (s[n].toNat : Int)
        · by_cases h34 : (s[n].toNat : Int) = 34
          · rw [decide_eq_true h34]
            exact token_text b s n li st lim w _ h hn q0 q1 q2 q3 (by rw [h34]; rfl) fun W hW => text_any b s n li st lim W hW hn hs
          · rw [decide_eq_false h34]
            exact token_symbol b s n li st lim w _ h hn (Pl.symTok_pos _) q0 q1 q2 q3 (beq_eq_false_iff_ne.2 h34) fun W hW => symbolTok_any b s n li st lim W hW (Nat.le_of_lt hn) hm
        · exact token_digit b s n li st lim w _ h hn (Pl.numTok_pos _) q0 q1 q2 q3 fun W hW => number_tok b s n li st lim W hW hn hm
    · exact token_capital b s n li st lim w _ h hn (Pl.nameTok_pos _) q0 q1 fun W hW => name_any b s n li st lim W hW hn hm (Pl.capital_inner _ q1)
  · exact token_small b s n li st lim w _ h hn (Pl.nameTok_pos _) q0 fun W hW => name_any b s n li st lim W hW hn hm (Pl.small_inner _ q0)
end Go.Proofs.YtkmgnibopmpcjaaGreatDoor
