/-
  Walks of layer 8: whether a kind is big.
-/
import Derived.Test.YthamhgnhdjahgaaKl
import Derived.Laws.EntriesVeiled
namespace Go.Proofs.Ythamhgnhdjahgaa
open Go Go.RowKit
open Pl (K)
set_option linter.unusedSimpArgs false

/-- Nothing has turned but block b, and what is new. -/
def Only (b : Nat) (w w' : World) : Prop := w.grownBy w' (some b)
theorem Only.refl (b : Nat) (w : World) : Only b w w := ⟨rfl, rfl, rfl, Nat.le_refl _, fun _ _ _ => rfl⟩
theorem Only.size {b : Nat} {w w' : World} (h : Only b w w') : w.heap.size ≤ w'.heap.size := World.grownBy.size h
theorem Only.trans {b : Nat} {a c d : World} (h : Only b a c) (k : Only b c d) : Only b a d :=
  ⟨(World.grownBy.os k).trans (World.grownBy.os h), (World.grownBy.tape k).trans (World.grownBy.tape h), (World.grownBy.output k).trans (World.grownBy.output h), Nat.le_trans h.size k.size,
   fun i hi hne => (World.grownBy.block k i (Nat.lt_of_lt_of_le hi h.size) hne).trans (World.grownBy.block h i hi hne)⟩
theorem Only.drew {b : Nat} {a w : World} (h : Only b a w) : Only b a w.drew := h.trans ⟨rfl, rfl, rfl, Nat.le_refl _, fun _ _ _ => rfl⟩
theorem Only.drewN {b : Nat} {a w : World} (h : Only b a w) (n : Nat) : Only b a (w.drewN n) := h.trans ⟨rfl, rfl, rfl, Nat.le_refl _, fun _ _ _ => rfl⟩
theorem Only.alloc {b : Nat} {a w : World} (h : Only b a w) (o : Obj) : Only b a (w.alloc o) :=
  h.trans ⟨rfl, rfl, rfl, by simp, fun i hi _ => Below.heap_alloc w o i hi⟩
theorem Only.setCell {b : Nat} {a w : World} (h : Only b a w) {p : Addr} (hp : p.block = b ∨ a.heap.size ≤ p.block) (v : Value) : Only b a (w.setCell p v) := by
  obtain ⟨h1, h2, h3, h4, h5⟩ := (show a.grownBy w (some b) from h)
  refine ⟨h1, h2, h3, by simpa [World.setCell] using h4, fun i hi hne => ?_⟩
  refine (Below.heap_setCell w p v i ?_).trans (h5 i hi hne)
  rintro rfl
  rcases hp with hp | hp
  · exact hne (by rw [hp])
  · omega
theorem Only.below {b : Nat} {a w w' : World} (h : Only b a w) {B : Nat} (hb : Below B w w') (hB : a.heap.size ≤ B) : Only b a w' :=
  ⟨hb.os.trans (World.grownBy.os h), hb.tape.trans (World.grownBy.tape h), hb.output.trans (World.grownBy.output h), Nat.le_trans h.size hb.size, fun i hi hne => (hb.block i (by omega)).trans (World.grownBy.block h i hi hne)⟩
theorem Only.to {b : Nat} {w w' : World} (h : Only b w w') {B : Nat} (hb : B ≤ b) (hB : B ≤ w.heap.size) : Below B w w' :=
  ⟨World.grownBy.os h, World.grownBy.tape h, World.grownBy.output h, h.size, fun i hi => World.grownBy.block h i (by omega) (fun e => by injection e with e; omega)⟩
theorem Only.blk {b : Nat} {w w' : World} (h : Only b w w') {g : Nat} {t : TypeId} {cs : Array Value} (hg : Blk w g t cs) (hne : g ≠ b) : Blk w' g t cs :=
  (World.grownBy.block h g hg.lt (fun e => by injection e with e; exact hne e)).trans hg
theorem cell_only {N b o : Nat} {w w' : World} (h : Only N w w') (hb : b < w.heap.size) (hne : b ≠ N) : w'.cell? ⟨b, o, none⟩ = w.cell? ⟨b, o, none⟩ := by
  have := World.grownBy.block h b hb (fun e => by injection e with e; exact hne e)
  simp only [World.cell?, this]
namespace Pl.K
theorem sizes_app (a b : List K) : sizes (a ++ b) = sizes a + sizes b := by
  induction a with
  | nil => rw [List.nil_append, sizes]; omega
  | cons t r ih => rw [List.cons_append, sizes, sizes, ih]; omega
theorem depths_app (a b : List K) : depths (a ++ b) = max (depths a) (depths b) := by
  induction a with
  | nil => rw [List.nil_append, depths]; omega
  | cons t r ih => rw [List.cons_append, depths, depths, ih]; omega
theorem sizes_snoc (l : List K) (i : Nat) (h : i < l.length) : sizes (l.take (i + 1)) = sizes (l.take i) + size l[i] := by
  rw [List.take_succ_eq_append_getElem h, sizes_app, sizes, sizes]; omega
theorem depths_snoc (l : List K) (i : Nat) (h : i < l.length) : depths (l.take (i + 1)) = max (depths (l.take i)) (depth l[i]) := by
  rw [List.take_succ_eq_append_getElem h, depths_app, depths, depths]; omega
end Pl.K
/-- what the counting closure leaves behind -/
def BigP (N : Nat) (t : K) (c dep : Int) (w : World) (e : Ending) (w' : World) : Prop :=
  e = .returned (.tuple #[]) ∧ ∃ c' : Int, Blk w' N 3 #[.int .i64 c'] ∧ 0 ≤ c' ∧ c' ≤ 1000 ∧ (c' ≤ 300 → c' = c + K.size t ∧ dep + K.depth t ≤ 61) ∧ Only N w w'
set_option maxRecDepth 100000 in
set_option maxHeartbeats 2000000 in
theorem big1_any (P : Nat → Prop) (N F : Nat) (hNF : F ≠ N) (t : K) : ∀ (c dep : Int) (w : World) (v : Value), (∀ b, P b → b < w.heap.size ∧ b ≠ N) → Blk w N 3 #[.int .i64 c] → Blk w F 54 #[.func (.func 33) #[] #[.pointer (some ⟨N, 0, none⟩), .pointer (some ⟨F, 0, none⟩)]] → KV w P t v → 0 ≤ c → c ≤ 300 → 0 ≤ dep → dep ≤ 61 →
    Calls Try.prog 33 #[v, .int .i64 dep, .pointer (some ⟨N, 0, none⟩), .pointer (some ⟨F, 0, none⟩)] w (BigP N t c dep w) := by
  induction t using K.ind with
  | h t ih =>
  intro c dep w v hP hN hF ht hc0 hc1 hd0 hd1
  have HIH := Lib.hid ih
  clear ih
  obtain ⟨l⟩ := t
  obtain ⟨a, cc, rfl, hlc, hcm, hka⟩ := ht.open
  replace hka : ∀ (j : Nat) (hj : j < l.length), ∃ b off x, a = some ⟨b, off, none⟩ ∧ P b ∧ w.cell? ⟨b, off + j, none⟩ = some x ∧ KidV w P l[j] x := hka
  have hll : l.length ≤ 9223372036854775807 := by
    have h1 : l.length ≤ cc := hlc
    unfold maxLen at hcm; omega
  change Calls _ _ #[.agg #[.slice a l.length cc], _, _, _] _ _
  obtain ⟨n, hn⟩ : ∃ n, n = l.length := ⟨_, rfl⟩
  rw [← hn] at hll ⊢
  have HLN := Lib.hid hn
  have HKA := Lib.hid hka
  have HP := Lib.hid hP
  have HNF := Lib.hid hNF
  clear ht hlc hcm hka hn hP
  obtain ⟨hbx, hb⟩ := box_new w 24 (.slice a n cc)
  have hn1 := hN.of_eq (hb.block _ hN.lt)
  have hf1 := hF.of_eq (hb.block _ hF.lt)
  have hgn : w.heap.size ≠ N := fun e => by have := hN.lt; omega
  have cn := hn1.cell 0 (.int .i64 c) rfl
  have fn := hn1.thaw 0
  have w1 : wrap64 (c + 1) = c + 1 := by rw [wrap64]; omega
  have cg := (hbx.other ⟨N, 0, none⟩ (.int .i64 (c + 1)) hgn).cell 0 (.slice a n cc) rfl
  have HGN := Lib.hid hgn
  have ho1 : Only N w ((w.alloc (.cells #[.slice a n cc] 24)).setCell ⟨N, 0, none⟩ (.int .i64 (c + 1))) := ((Only.refl N w).alloc _).setCell (p := ⟨N, 0, none⟩) (.inl rfl) _
  have hn2 : Blk ((w.alloc (.cells #[.slice a n cc] 24)).setCell ⟨N, 0, none⟩ (.int .i64 (c + 1))) N 3 #[.int .i64 (c + 1)] := blk_one hn1
  have HO := Lib.hid ho1
  have HN := Lib.hid hn2
  have HG := Lib.hid (hbx.other ⟨N, 0, none⟩ (.int .i64 (c + 1)) hgn)
  have HFB := Lib.hid (hf1.other ⟨N, 0, none⟩ (.int .i64 (c + 1)) hNF)
  obtain ⟨G, hG⟩ : ∃ G, G = w.heap.size := ⟨_, rfl⟩
  have fn2 := hn2.thaw 0
  have cn2 := hn2.cell 0 (.int .i64 (c + 1)) rfl
  clear hbx hb hN hF hf1 hn1 hgn ho1 hn2
  by_cases hd : dep ≤ 60
  · have q1 : decide ((60 : Int) < dep) = false := decide_eq_false (by omega)
    by_cases hw : n ≤ 10
    · have q2 : decide ((10 : Int) < (n : Int)) = false := decide_eq_false (by omega)
      go_enter Try.func33, Try.ntmps33
      go_wp2_with fail
      generalize (w.alloc (.cells #[.slice a n cc] 24)).setCell ⟨N, 0, none⟩ (.int .i64 (c + 1)) = w2 at *
      go_loopg [6] (n + 1) (fun g k wr => ∃ (i : Nat) (x : Int), i ≤ n ∧ k = .int .i64 i ∧ g = n + 1 - i ∧ Blk wr N 3 #[.int .i64 x] ∧ 0 ≤ x ∧ x ≤ 1000 ∧ (x ≤ 300 → dep ≤ 60 ∧ x = c + 1 + (K.sizes (l.take i) : Int) ∧ dep + 1 + (K.depths (l.take i) : Int) ≤ 61) ∧ Only N w wr ∧ Only N w2 wr)
      case atStart => exact ⟨0, _, by omega, rfl, by omega, HN.out, by omega, by omega, fun _ => ⟨hd, by rw [List.take_zero, K.sizes]; simp, by rw [List.take_zero, K.depths]; simp; omega⟩, HO.out, Only.refl _ _⟩
      case round =>
        obtain ⟨i, x, hi, rfl, hg, hn, hx0, hx1, hxx, ho, ho2⟩ := hrel
        have HNX := Lib.hid hn
        have HXX := Lib.hid hxx
        have HOX := Lib.hid ho
        have HOX2 := Lib.hid ho2
        have HGX := Lib.hid (ho2.blk HG.out HGN.out)
        have HFX := Lib.hid (ho2.blk HFB.out HNF.out)
        have cn := hn.cell 0 (.int .i64 x) rfl
        have cg := HGX.out.cell 0 (.slice a n cc) rfl
        by_cases hlt : i < n
        · have q5 : decide ((i : Int) < (n : Int)) = true := decide_eq_true (by omega)
          by_cases hx : x ≤ 300
          · have q6 : decide (x ≤ 300) = true := decide_eq_true hx
            obtain ⟨hd60, hxe, hdd⟩ := hxx hx
            have hil : i < l.length := by rw [← HLN.out]; exact hlt
            obtain ⟨b0, o0, y, rfl, hPb, hy, hky⟩ := HKA.out i hil
            obtain ⟨a7, c7, rfl⟩ := hky.form
            have hb0 := HP.out b0 hPb
            have hwd : Only N wr wr.drew := (Only.refl N wr).drew
            have fy := (cell_only (ho.trans hwd) hb0.1 hb0.2).trans hy
            have HC := Lib.hid (HIH.out l[i] (List.getElem_mem hil) x (dep + 1) wr.drew (.agg #[.slice a7 l[i].l.length c7]) (fun b h => ⟨Nat.lt_of_lt_of_le (HP.out b h).1 (ho.trans hwd).size, (HP.out b h).2⟩) (hn.of_eq rfl) (HFX.out.of_eq rfl) ⟨_, rfl, hky.keep (fun b h => World.grownBy.block (ho.trans hwd) b (HP.out b h).1 (fun e => by injection e with e; exact (HP.out b h).2 e))⟩ hx0 hx (by omega) (by omega))
            have HSS := Lib.hid (K.sizes_snoc l i hil)
            have HDS := Lib.hid (K.depths_snoc l i hil)
            have w5 : wrap64 (dep + 1) = dep + 1 := by rw [wrap64]; omega
            have cgd := (HGX.out.drew).cell 0 (.slice (some ⟨b0, o0, none⟩) n cc) rfl
            have cfd := (HFX.out.drew).cell 0 (.func (.func 33) #[] #[.pointer (some ⟨N, 0, none⟩), .pointer (some ⟨F, 0, none⟩)]) rfl
            have HWD := Lib.hid hwd
            generalize l[i].l.length = n7 at *
            clear hn hxx ho ho2 hy hky hPb hwd
            go_wp2
            refine wp_region_still_tail 8 (by kernel_rfl) (by kernel_rfl) ?_
            change wpStill _ _ wr.drew (fun a' => wpList _ _ _ _ a' wr.drew) _ _
            generalize wr.drew = wd at *
            simp only [List.take_succ_cons, List.take_zero, List.drop_succ_cons, List.drop_zero]
            repeat still_step
            refine wpStill_nil ?_
            go_wp2_with fail
            refine HC.out.mono ?_
            rintro e w6 ⟨rfl, x', hn6, h60, h61, h6, ho6⟩
            have HN6 := Lib.hid hn6
            have HOA := Lib.hid ((HOX.out.trans HWD.out).trans ho6)
            have HOB := Lib.hid ((HOX2.out.trans HWD.out).trans ho6)
            have HX6 := Lib.hid (show x' ≤ 300 → dep ≤ 60 ∧ x' = c + 1 + (K.sizes (l.take (i + 1)) : Int) ∧ dep + 1 + (K.depths (l.take (i + 1)) : Int) ≤ 61 from fun h => by
              obtain ⟨k1, k2⟩ := h6 h
              rw [HSS.out, HDS.out]
              exact ⟨hd60, by omega, by omega⟩)
            clear hn6 h6 ho6 cn cg cgd cfd fy
            go_wp2
            go_roundg (gk - 1)
            case measure => omega
            case rel => exact ⟨i + 1, x', by omega, by go_num, by omega, HN6.out, h60, h61, HX6.out, HOA.out, HOB.out⟩
          · have q6 : decide (x ≤ 300) = false := decide_eq_false hx
            clear hn hxx ho ho2
            go_wp2
            refine bodyPost_ret (v := .tuple #[]) (by simp [results, Try.results33, go_sem]) rfl ?_
            exact ⟨rfl, x, HNX.out, hx0, hx1, fun h => absurd h (by omega), HOX.out⟩
        · have q5 : decide ((i : Int) < (n : Int)) = false := decide_eq_false (by omega)
          have htk : l.take i = l := List.take_of_length_le (by rw [← HLN.out]; omega)
          rw [htk] at hxx
          have HX7 := Lib.hid (show x ≤ 300 → x = c + (K.size (.mk l) : Int) ∧ dep + (K.depth (.mk l) : Int) ≤ 61 from fun h => by
            obtain ⟨k0, k1, k2⟩ := hxx h
            rw [K.size, K.depth]
            omega)
          clear hn hxx ho ho2 htk
          go_wp2
          refine bodyPost_ret (v := .tuple #[]) (by simp [results, Try.results33, go_sem]) rfl ?_
          exact ⟨rfl, x, HNX.out, hx0, hx1, HX7.out, HOX.out⟩
    · have q2 : decide ((10 : Int) < (n : Int)) = true := decide_eq_true (by omega)
      go_enter Try.func33, Try.ntmps33
      go_wp2_with fail
      replace HO := Lib.hid (HO.out.setCell (p := ⟨N, 0, none⟩) (.inl rfl) (.int .i64 1000))
      replace HG := Lib.hid (HG.out.other ⟨N, 0, none⟩ (.int .i64 1000) HGN.out)
      replace HFB := Lib.hid (HFB.out.other ⟨N, 0, none⟩ (.int .i64 1000) HNF.out)
      replace HN := Lib.hid (blk_one (y := .int .i64 1000) HN.out)
      clear fn2 cn2 cg cn fn
      generalize ((w.alloc (.cells #[.slice a n cc] 24)).setCell ⟨N, 0, none⟩ (.int .i64 (c + 1))).setCell ⟨N, 0, none⟩ (.int .i64 1000) = w2 at *
      go_loopg [6] (n + 1) (fun g k wr => ∃ (i : Nat) (x : Int), i ≤ n ∧ k = .int .i64 i ∧ g = n + 1 - i ∧ Blk wr N 3 #[.int .i64 x] ∧ 0 ≤ x ∧ x ≤ 1000 ∧ (x ≤ 300 → dep ≤ 60 ∧ x = c + 1 + (K.sizes (l.take i) : Int) ∧ dep + 1 + (K.depths (l.take i) : Int) ≤ 61) ∧ Only N w wr ∧ Only N w2 wr)
      case atStart => exact ⟨0, _, by omega, rfl, by omega, HN.out, by omega, by omega, fun h => absurd h (by omega), HO.out, Only.refl _ _⟩
      case round =>
        obtain ⟨i, x, hi, rfl, hg, hn, hx0, hx1, hxx, ho, ho2⟩ := hrel
        have HNX := Lib.hid hn
        have HXX := Lib.hid hxx
        have HOX := Lib.hid ho
        have HOX2 := Lib.hid ho2
        have HGX := Lib.hid (ho2.blk HG.out HGN.out)
        have HFX := Lib.hid (ho2.blk HFB.out HNF.out)
        have cn := hn.cell 0 (.int .i64 x) rfl
        have cg := HGX.out.cell 0 (.slice a n cc) rfl
        by_cases hlt : i < n
        · have q5 : decide ((i : Int) < (n : Int)) = true := decide_eq_true (by omega)
          by_cases hx : x ≤ 300
          · have q6 : decide (x ≤ 300) = true := decide_eq_true hx
            obtain ⟨hd60, hxe, hdd⟩ := hxx hx
            have hil : i < l.length := by rw [← HLN.out]; exact hlt
            obtain ⟨b0, o0, y, rfl, hPb, hy, hky⟩ := HKA.out i hil
            obtain ⟨a7, c7, rfl⟩ := hky.form
            have hb0 := HP.out b0 hPb
            have hwd : Only N wr wr.drew := (Only.refl N wr).drew
            have fy := (cell_only (ho.trans hwd) hb0.1 hb0.2).trans hy
            have HC := Lib.hid (HIH.out l[i] (List.getElem_mem hil) x (dep + 1) wr.drew (.agg #[.slice a7 l[i].l.length c7]) (fun b h => ⟨Nat.lt_of_lt_of_le (HP.out b h).1 (ho.trans hwd).size, (HP.out b h).2⟩) (hn.of_eq rfl) (HFX.out.of_eq rfl) ⟨_, rfl, hky.keep (fun b h => World.grownBy.block (ho.trans hwd) b (HP.out b h).1 (fun e => by injection e with e; exact (HP.out b h).2 e))⟩ hx0 hx (by omega) (by omega))
            have HSS := Lib.hid (K.sizes_snoc l i hil)
            have HDS := Lib.hid (K.depths_snoc l i hil)
            have w5 : wrap64 (dep + 1) = dep + 1 := by rw [wrap64]; omega
            have cgd := (HGX.out.drew).cell 0 (.slice (some ⟨b0, o0, none⟩) n cc) rfl
            have cfd := (HFX.out.drew).cell 0 (.func (.func 33) #[] #[.pointer (some ⟨N, 0, none⟩), .pointer (some ⟨F, 0, none⟩)]) rfl
            have HWD := Lib.hid hwd
            generalize l[i].l.length = n7 at *
            clear hn hxx ho ho2 hy hky hPb hwd
            go_wp2
            refine wp_region_still_tail 8 (by kernel_rfl) (by kernel_rfl) ?_
            change wpStill _ _ wr.drew (fun a' => wpList _ _ _ _ a' wr.drew) _ _
            generalize wr.drew = wd at *
            simp only [List.take_succ_cons, List.take_zero, List.drop_succ_cons, List.drop_zero]
            repeat still_step
            refine wpStill_nil ?_
            go_wp2_with fail
            refine HC.out.mono ?_
            rintro e w6 ⟨rfl, x', hn6, h60, h61, h6, ho6⟩
            have HN6 := Lib.hid hn6
            have HOA := Lib.hid ((HOX.out.trans HWD.out).trans ho6)
            have HOB := Lib.hid ((HOX2.out.trans HWD.out).trans ho6)
            have HX6 := Lib.hid (show x' ≤ 300 → dep ≤ 60 ∧ x' = c + 1 + (K.sizes (l.take (i + 1)) : Int) ∧ dep + 1 + (K.depths (l.take (i + 1)) : Int) ≤ 61 from fun h => by
              obtain ⟨k1, k2⟩ := h6 h
              rw [HSS.out, HDS.out]
              exact ⟨hd60, by omega, by omega⟩)
            clear hn6 h6 ho6 cn cg cgd cfd fy
            go_wp2
            go_roundg (gk - 1)
            case measure => omega
            case rel => exact ⟨i + 1, x', by omega, by go_num, by omega, HN6.out, h60, h61, HX6.out, HOA.out, HOB.out⟩
          · have q6 : decide (x ≤ 300) = false := decide_eq_false hx
            clear hn hxx ho ho2
            go_wp2
            refine bodyPost_ret (v := .tuple #[]) (by simp [results, Try.results33, go_sem]) rfl ?_
            exact ⟨rfl, x, HNX.out, hx0, hx1, fun h => absurd h (by omega), HOX.out⟩
        · have q5 : decide ((i : Int) < (n : Int)) = false := decide_eq_false (by omega)
          have htk : l.take i = l := List.take_of_length_le (by rw [← HLN.out]; omega)
          rw [htk] at hxx
          have HX7 := Lib.hid (show x ≤ 300 → x = c + (K.size (.mk l) : Int) ∧ dep + (K.depth (.mk l) : Int) ≤ 61 from fun h => by
            obtain ⟨k0, k1, k2⟩ := hxx h
            rw [K.size, K.depth]
            omega)
          clear hn hxx ho ho2 htk
          go_wp2
          refine bodyPost_ret (v := .tuple #[]) (by simp [results, Try.results33, go_sem]) rfl ?_
          exact ⟨rfl, x, HNX.out, hx0, hx1, HX7.out, HOX.out⟩
  · have q1 : decide ((60 : Int) < dep) = true := decide_eq_true (by omega)
    go_enter Try.func33, Try.ntmps33
    go_wp2_with fail
    replace HO := Lib.hid (HO.out.setCell (p := ⟨N, 0, none⟩) (.inl rfl) (.int .i64 1000))
    replace HG := Lib.hid (HG.out.other ⟨N, 0, none⟩ (.int .i64 1000) HGN.out)
    replace HFB := Lib.hid (HFB.out.other ⟨N, 0, none⟩ (.int .i64 1000) HNF.out)
    replace HN := Lib.hid (blk_one (y := .int .i64 1000) HN.out)
    clear fn2 cn2 cg cn fn
    generalize ((w.alloc (.cells #[.slice a n cc] 24)).setCell ⟨N, 0, none⟩ (.int .i64 (c + 1))).setCell ⟨N, 0, none⟩ (.int .i64 1000) = w2 at *
    go_loopg [6] (n + 1) (fun g k wr => ∃ (i : Nat) (x : Int), i ≤ n ∧ k = .int .i64 i ∧ g = n + 1 - i ∧ Blk wr N 3 #[.int .i64 x] ∧ 0 ≤ x ∧ x ≤ 1000 ∧ (x ≤ 300 → dep ≤ 60 ∧ x = c + 1 + (K.sizes (l.take i) : Int) ∧ dep + 1 + (K.depths (l.take i) : Int) ≤ 61) ∧ Only N w wr ∧ Only N w2 wr)
    case atStart => exact ⟨0, _, by omega, rfl, by omega, HN.out, by omega, by omega, fun h => absurd h (by omega), HO.out, Only.refl _ _⟩
    case round =>
      obtain ⟨i, x, hi, rfl, hg, hn, hx0, hx1, hxx, ho, ho2⟩ := hrel
      have HNX := Lib.hid hn
      have HXX := Lib.hid hxx
      have HOX := Lib.hid ho
      have HOX2 := Lib.hid ho2
      have HGX := Lib.hid (ho2.blk HG.out HGN.out)
      have HFX := Lib.hid (ho2.blk HFB.out HNF.out)
      have cn := hn.cell 0 (.int .i64 x) rfl
      have cg := HGX.out.cell 0 (.slice a n cc) rfl
      by_cases hlt : i < n
      · have q5 : decide ((i : Int) < (n : Int)) = true := decide_eq_true (by omega)
        by_cases hx : x ≤ 300
        · have q6 : decide (x ≤ 300) = true := decide_eq_true hx
          obtain ⟨hd60, hxe, hdd⟩ := hxx hx
          exact absurd hd60 (by omega)
        · have q6 : decide (x ≤ 300) = false := decide_eq_false hx
          clear hn hxx ho ho2
          go_wp2
          refine bodyPost_ret (v := .tuple #[]) (by simp [results, Try.results33, go_sem]) rfl ?_
          exact ⟨rfl, x, HNX.out, hx0, hx1, fun h => absurd h (by omega), HOX.out⟩
      · have q5 : decide ((i : Int) < (n : Int)) = false := decide_eq_false (by omega)
        have htk : l.take i = l := List.take_of_length_le (by rw [← HLN.out]; omega)
        rw [htk] at hxx
        have HX7 := Lib.hid (show x ≤ 300 → x = c + (K.size (.mk l) : Int) ∧ dep + (K.depth (.mk l) : Int) ≤ 61 from fun h => by
          obtain ⟨k0, k1, k2⟩ := hxx h
          rw [K.size, K.depth]
          omega)
        clear hn hxx ho ho2 htk
        go_wp2
        refine bodyPost_ret (v := .tuple #[]) (by simp [results, Try.results33, go_sem]) rfl ?_
        exact ⟨rfl, x, HNX.out, hx0, hx1, HX7.out, HOX.out⟩
theorem three_new8 (w : World) (T1 T2 T3 : TypeId) (u v x : Value) : Blk (((w.alloc (.cells #[u] T1)).alloc (.cells #[v] T2)).alloc (.cells #[x] T3)) w.heap.size T1 #[u] ∧ Blk (((w.alloc (.cells #[u] T1)).alloc (.cells #[v] T2)).alloc (.cells #[x] T3)) (w.heap.size + 1) T2 #[v] ∧ Blk (((w.alloc (.cells #[u] T1)).alloc (.cells #[v] T2)).alloc (.cells #[x] T3)) (w.heap.size + 1 + 1) T3 #[x] ∧ Below w.heap.size w (((w.alloc (.cells #[u] T1)).alloc (.cells #[v] T2)).alloc (.cells #[x] T3)) := by
  have h2 := blk_new (w.alloc (.cells #[u] T1)) #[v] T2
  rw [size_alloc] at h2
  have h3 := blk_new ((w.alloc (.cells #[u] T1)).alloc (.cells #[v] T2)) #[x] T3
  rw [size_alloc, size_alloc] at h3
  exact ⟨((blk_new w #[u] T1).alloc _).alloc _, h2.alloc _, h3, below_new (below_new (below_new (Below.refl _ _)))⟩
set_option maxRecDepth 100000 in
theorem big_any (P : Nat → Prop) (t : K) (w : World) (v : Value) (hP : ∀ b, P b → b < w.heap.size) (ht : KV w P t v) :
    Calls Try.prog 11 #[v] w fun e w' => (∃ r : Bool, e = .returned (.bool r) ∧ (r = false → K.size t ≤ 300 ∧ K.depth t ≤ 60)) ∧ Below w.heap.size w w' := by
  obtain ⟨a, c, rfl⟩ := ht.form
  obtain ⟨N, hN⟩ : ∃ N, N = w.heap.size + 1 := ⟨_, rfl⟩
  obtain ⟨h0, h1, h2, hb⟩ := three_new8 w 24 3 54 (.slice a t.l.length c) (.int .i64 0) (.func (.func 33) #[] #[.pointer (some ⟨N, 0, none⟩), .pointer (some ⟨N + 1, 0, none⟩)])
  rw [← hN] at h1 h2
  have hC := big1_any P N (N + 1) (by omega) t 0 1 _ (.agg #[.slice a t.l.length c]) (fun b h => ⟨Nat.lt_of_lt_of_le (hP b h) hb.size, by have := hP b h; omega⟩) h1 h2 (ht.below hP hb) (by omega) (by omega) (by omega) (by omega)
  have HC := Lib.hid hC
  have HB := Lib.hid hb
  have HNN := Lib.hid (show w.heap.size ≤ N by omega)
  have HNE := Lib.hid hN
  have HX0 := Lib.hid (h0.cell 0 (.slice a t.l.length c) rfl)
  have HX2 := Lib.hid (h2.cell 0 (.func (.func 33) #[] #[.pointer (some ⟨N, 0, none⟩), .pointer (some ⟨N + 1, 0, none⟩)]) rfl)
  clear ht h0 h1 h2 hb hC
  generalize t.l.length = n at *
  go_enter Try.func11, Try.ntmps11
  go_wp2_with fail
  rw [← hN]
  clear hN
  generalize ((w.alloc (.cells #[.slice a n c] 24)).alloc (.cells #[.int .i64 0] 3)).alloc (.cells #[.func (.func 33) #[] #[.pointer (some ⟨N, 0, none⟩), .pointer (some ⟨N + 1, 0, none⟩)]] 54) = w2 at *
  refine HC.out.mono ?_
  rintro e w3 ⟨rfl, x, hn, hx0, hx1, hx, ho⟩
  have cn := hn.cell 0 (.int .i64 x) rfl
  have HB3 := Lib.hid (HB.out.trans (ho.to HNN.out HB.out.size))
  have HX := Lib.hid hx
  clear hn hx ho
  by_cases hb : x ≤ 300
  · have q1 : decide ((300 : Int) < x) = false := decide_eq_false (by omega)
    go_wp2
    go_ret
    exact ⟨⟨false, rfl, fun _ => by have := HX.out (by omega); omega⟩, HB3.out⟩
  · have q1 : decide ((300 : Int) < x) = true := decide_eq_true (by omega)
    go_wp2
    go_ret
    exact ⟨⟨true, rfl, fun h => by cases h⟩, HB3.out⟩
/-- whether one of some kinds is big -/
def NotBig (t : K) : Prop := K.size t ≤ 300 ∧ K.depth t ≤ 60
set_option maxRecDepth 100000 in
theorem bigIndex_any (P : Nat → Prop) (l : List K) (w : World) (v : Value) (hP : ∀ b, P b → b < w.heap.size) (ht : KSl w P v l) :
    Calls Try.prog 38 #[v, .func (.func 11) #[] #[]] w fun e w' => (∃ r : Int, e = .returned (.int .i64 r) ∧ (r < 0 → ∀ t ∈ l, NotBig t)) ∧ Below w.heap.size w w' := by
  obtain ⟨a, c, rfl, hlc, hcm, hka⟩ := ht.each
  clear ht
  have HB : Hid (Below w.heap.size w w) := Below.refl _ _
  have HP := Lib.hid hP
  obtain ⟨n, hn⟩ : ∃ n, n = l.length := ⟨_, rfl⟩
  rw [← hn] at hlc ⊢
  have HN := Lib.hid hn
  have HKA := Lib.hid hka
  have hll : n ≤ 9223372036854775807 := by unfold maxLen at hcm; omega
  clear hka hcm hP hn
  go_enter Try.func38, Try.ntmps38
  go_wp2_with fail
  go_loopg [8] (n + 1) (fun g k wr => ∃ i : Nat, i ≤ n ∧ k = .int .i64 i ∧ g = n + 1 - i ∧ (∀ j (h : j < l.length), j < i → NotBig l[j]) ∧ Below w.heap.size w wr)
  case atStart => exact ⟨0, by omega, rfl, by omega, fun j h h0 => absurd h0 (Nat.not_lt_zero _), HB.out⟩
  case round =>
    obtain ⟨i, hi, rfl, hg, hall, hbw⟩ := hrel
    have HBW := Lib.hid hbw
    have HALL := Lib.hid hall
    by_cases hlt : i < n
    · have q5 : decide ((i : Int) < (n : Int)) = true := decide_eq_true (by omega)
      have hil : i < l.length := by rw [← HN.out]; exact hlt
      obtain ⟨b, off, x, rfl, hPb, hx, hkx⟩ := HKA.out i hil
      obtain ⟨a7, c7, rfl⟩ := hkx.form
      have f0 := (hbw.cell (p := ⟨b, off + i, none⟩) (HP.out b hPb)).trans hx
      have HC := Lib.hid (big_any P l[i] wr (.agg #[.slice a7 l[i].l.length c7]) (fun b hb => Nat.lt_of_lt_of_le (HP.out b hb) hbw.size) ⟨_, rfl, hkx.keep (Same.of_below hbw HP.out)⟩)
      have HIL := Lib.hid hil
      generalize l[i].l.length = n7 at *
      clear hall hbw hx hkx hPb
      go_wp2_with fail
      refine HC.out.mono ?_
      rintro e w3 ⟨⟨r, rfl, hr⟩, hb3⟩
      have HB3 := Lib.hid (belowStep hb3 HBW.out)
      have HR := Lib.hid hr
      clear hb3 f0 hr
      cases r
      · have HF := Lib.hid (HR.out rfl)
        go_wp2
        go_roundg (gk - 1)
        case measure => omega
        case rel =>
          refine ⟨i + 1, by omega, by go_num, by omega, fun j hj h => ?_, HB3.out⟩
          rcases Nat.lt_or_ge j i with h1 | h1
          · exact HALL.out j hj h1
          · obtain rfl : j = i := by omega
            exact HF.out
      · go_wp2
        go_ret
        exact ⟨⟨i, rfl, fun h => by omega⟩, HB3.out⟩
    · have q5 : decide ((i : Int) < (n : Int)) = false := decide_eq_false (by omega)
      clear hall hbw
      go_wp2
      go_ret
      refine ⟨⟨-1, rfl, fun _ t ht => ?_⟩, HBW.out⟩
      obtain ⟨j, hj, rfl⟩ := List.getElem_of_mem ht
      exact HALL.out j hj (by have := HN.out; omega)
theorem bigContains_any (P : Nat → Prop) (l : List K) (w : World) (v : Value) (hP : ∀ b, P b → b < w.heap.size) (ht : KSl w P v l) :
    Calls Try.prog 18 #[v, .func (.func 11) #[] #[]] w fun e w' => (∃ r : Bool, e = .returned (.bool r) ∧ (r = false → ∀ t ∈ l, NotBig t)) ∧ Below w.heap.size w w' := by
  have HC := Lib.hid (bigIndex_any P l w v hP ht)
  obtain ⟨a, c, rfl, -⟩ := ht.each
  clear ht hP
  generalize l.length = n at *
  go_enter Try.func18, Try.ntmps18
  go_wp2_with fail
  refine HC.out.mono ?_
  rintro e w2 ⟨⟨r, rfl, hr⟩, hb2⟩
  have HR := Lib.hid hr
  have HB := Lib.hid hb2
  clear hr hb2
  by_cases h0 : (0 : Int) ≤ r
  · have q1 : decide ((0 : Int) ≤ r) = true := decide_eq_true h0
    go_wp2
    go_ret
    exact ⟨⟨true, rfl, fun h => by cases h⟩, HB.out⟩
  · have q1 : decide ((0 : Int) ≤ r) = false := decide_eq_false h0
    have HF := Lib.hid (HR.out (by omega))
    go_wp2
    go_ret
    exact ⟨⟨false, rfl, fun _ => HF.out⟩, HB.out⟩
end Go.Proofs.Ythamhgnhdjahgaa
