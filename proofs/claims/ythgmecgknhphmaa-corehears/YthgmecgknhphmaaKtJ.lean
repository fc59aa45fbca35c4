/-
  The document's step: what one frame that is offered makes of what is kept, of the counts, of what was taken.
  Conditions: what is kept takes no more bytes than a list may.
-/
import Derived.Test.YthgmecgknhphmaaBase
import Derived.Test.YthgmecgknhphmaaKtF
import Derived.Test.YthgmecgknhphmaaKtH
namespace Go.Proofs.Ythgmecgknhphmaa
set_option maxRecDepth 10000
open Go.RowKit Go.Sort
set_option linter.unusedVariables false

theorem offB_in (c m o : Nat → Nat) (x : Kt) (d : Nat) (hd : x.fr = (d : Int)) (hd8 : d < 8) (h : x.rd ≤ o d) : offB c m o x = takesB c m x := by
  have e1 : decide (0 ≤ x.fr ∧ x.fr < 8) = true := by simp; omega
  have e2 : decide (x.rd ≤ o x.fr.toNat) = true := by rw [hd]; simpa using h
  rw [offB, e1, e2, Bool.true_and, Bool.true_and]

set_option maxHeartbeats 8000000 in
theorem roffer_no (L t : List Kt) (a b : Option Addr) (k j : Nat) (c m o : Nat → Nat) (x : Kt) (hc : ∀ i, c i < 4294967296) (ho : offB c m o x = false) (w : World) (lS : Li Kt.vals 0 a L w) :
    Calls Try.prog 107 #[.agg (stc (.slice a L.length k) c (.slice b t.length j)), .agg (mbc m), .agg x.arr, .agg (mbc o)] w fun e w' => e = .returned (.agg (stc (.slice a L.length k) c (.slice b t.length j))) ∧ Below w.heap.size w w' := by
  have hpa : ∀ C D : Array Value, C.size = D.size → putAt C 0 D.toList = D := fun C D h => putAt_all C D h
  replace hpa := hpa (stc (.slice none 0 0) noMb (.slice none 0 0)) (stc (.slice a L.length k) c (.slice b t.length j)) rfl
  obtain ⟨a0, a1, a2, a3, a4, hB⟩ := five_blk (T0 := 148) (T1 := 28) (T2 := 64) (T3 := 29) (T4 := 148) (C0 := (stc (.slice a L.length k) c (.slice b t.length j))) (C1 := mbc m) (C2 := x.arr) (C3 := mbc o) (C4 := stc (.slice none 0 0) noMb (.slice none 0 0)) (w := w) rfl
  go_enter Try.func107, Try.ntmps107
  go_upto_region 1 with (refine alloc_zero zeroSt rfl rfl ?_)
  try simp only [Act.put, List.setIfInBounds_toArray, List.set_cons_zero, List.set_cons_succ]
  try simp only [alloc_size]
  generalize ((((w.alloc (Obj.cells (stc (.slice a L.length k) c (.slice b t.length j)) 148)).alloc (Obj.cells (mbc m) 28)).alloc (Obj.cells x.arr 64)).alloc (Obj.cells (mbc o) 29)).alloc (Obj.cells (stc (Value.slice none 0 0) noMb (Value.slice none 0 0)) 148) = W at a0 a1 a2 a3 a4 hB ⊢
  have q0 : ∀ d' os, (grow (redrawn W d') os).cell? ⟨w.heap.size + 1 + 1, 0, none⟩ = some (.int .i64 x.fr) := cell_regrown (a2.cell 0 _ x.get0)
  have q1 : ∀ d' os, (grow (redrawn W d') os).cell? ⟨w.heap.size + 1 + 1, 1, none⟩ = some (.int .u32 (x.rd : Int)) := cell_regrown (a2.cell 1 _ x.get1)
  by_cases h0 : x.fr < 0
  · have d0 : decide (x.fr < 0) = true := by simpa using h0
    refine wp_region_quiet_below (by kernel_rfl) (by kernel_rfl) ?_
    repeat (first
      | go_big_quiet_step (fail))
    refine wpQuiet_nil ?_
    intro _ hw'
    obtain ⟨⟨dq, osq⟩, hw''⟩ := hw'
    have hb := below_regrown W dq osq
    subst hw''
    generalize grow (redrawn W dq) osq = w1 at hb ⊢
    replace a0 := a0.below hb
    replace a1 := a1.below hb
    replace a2 := a2.below hb
    replace a3 := a3.below hb
    replace a4 := a4.below hb
    replace hB := hB.trans (hb.mono hB.size)
    clear hb
    clear q0 q1
    go_wp2_with (first | refine load_blk rfl 148 _ rfl a0 rfl Try.underlying148 rfl sizeSt ?_ | (refine store_part rfl 148 _ _ rfl (off := 0) (cells := (stc (.slice a L.length k) c (.slice b t.length j))) a4 rfl rfl sizeSt (Nat.le_refl _) (stc_one _ _ _ _ _ _ _) ?_; intro u4 c4 k4; rw [hpa] at c4; have hB4 := hB.trans (k4.below1 (by omega) hB.size)))
    exact bodyPost_ret (w := u4) (v := .agg (stc (.slice a L.length k) c (.slice b t.length j))) (ret_one rfl rfl c4 Try.underlying148 rfl sizeSt) rfl ⟨rfl, hB4⟩
  have d0 : decide (x.fr < 0) = false := by simpa using h0
  by_cases h7 : 7 < x.fr
  · have d1 : decide (7 < x.fr) = true := by simpa using h7
    refine wp_region_quiet_below (by kernel_rfl) (by kernel_rfl) ?_
    repeat (first
      | go_big_quiet_step (fail))
    refine wpQuiet_nil ?_
    intro _ hw'
    obtain ⟨⟨dq, osq⟩, hw''⟩ := hw'
    have hb := below_regrown W dq osq
    subst hw''
    generalize grow (redrawn W dq) osq = w1 at hb ⊢
    replace a0 := a0.below hb
    replace a1 := a1.below hb
    replace a2 := a2.below hb
    replace a3 := a3.below hb
    replace a4 := a4.below hb
    replace hB := hB.trans (hb.mono hB.size)
    clear hb
    clear q0 q1
    go_wp2_with (first | refine load_blk rfl 148 _ rfl a0 rfl Try.underlying148 rfl sizeSt ?_ | (refine store_part rfl 148 _ _ rfl (off := 0) (cells := (stc (.slice a L.length k) c (.slice b t.length j))) a4 rfl rfl sizeSt (Nat.le_refl _) (stc_one _ _ _ _ _ _ _) ?_; intro u4 c4 k4; rw [hpa] at c4; have hB4 := hB.trans (k4.below1 (by omega) hB.size)))
    exact bodyPost_ret (w := u4) (v := .agg (stc (.slice a L.length k) c (.slice b t.length j))) (ret_one rfl rfl c4 Try.underlying148 rfl sizeSt) rfl ⟨rfl, hB4⟩
  clear d0
  obtain ⟨d, hd⟩ : ∃ d : Nat, x.fr = (d : Int) := ⟨x.fr.toNat, by omega⟩
  have hd8 : d < 8 := by omega
  have q2 : ∀ d' os, (grow (redrawn W d') os).cell? ⟨w.heap.size + 1 + 1 + 1, d, none⟩ = some (.int .u32 (o d : Int)) := cell_regrown (a3.cell d _ (mbc_get o d hd8))
  have d0 : decide ((d : Int) < 0) = false := by simp
  have d1 : decide ((7 : Int) < (d : Int)) = false := by simp; omega
  have d2 : (d : Int) < 8 := by omega
  have d3 : (0 : Int) ≤ (d : Int) := by omega
  have d4 : Int.tmod (d : Int) 8 = (d : Int) := Int.tmod_eq_of_lt d3 d2
  rw [hd] at q0
  by_cases hm : x.rd ≤ o d
  rotate_left
  · have d5 : decide (o d < x.rd) = true := by simp; omega
    refine wp_region_quiet_below (by kernel_rfl) (by kernel_rfl) ?_
    repeat (first
      | go_big_quiet_step (fail))
    refine wpQuiet_nil ?_
    intro _ hw'
    obtain ⟨⟨dq, osq⟩, hw''⟩ := hw'
    have hb := below_regrown W dq osq
    subst hw''
    generalize grow (redrawn W dq) osq = w1 at hb ⊢
    replace a0 := a0.below hb
    replace a1 := a1.below hb
    replace a2 := a2.below hb
    replace a3 := a3.below hb
    replace a4 := a4.below hb
    replace hB := hB.trans (hb.mono hB.size)
    clear hb
    clear q0 q1 q2
    go_wp2_with (first | refine load_blk rfl 148 _ rfl a0 rfl Try.underlying148 rfl sizeSt ?_ | (refine store_part rfl 148 _ _ rfl (off := 0) (cells := (stc (.slice a L.length k) c (.slice b t.length j))) a4 rfl rfl sizeSt (Nat.le_refl _) (stc_one _ _ _ _ _ _ _) ?_; intro u4 c4 k4; rw [hpa] at c4; have hB4 := hB.trans (k4.below1 (by omega) hB.size)))
    exact bodyPost_ret (w := u4) (v := .agg (stc (.slice a L.length k) c (.slice b t.length j))) (ret_one rfl rfl c4 Try.underlying148 rfl sizeSt) rfl ⟨rfl, hB4⟩
  have d5 : decide (o d < x.rd) = false := by simp; omega
  have htb : takesB c m x = false := by rw [← offB_in c m o x d hd hd8 hm]; exact ho
  refine wp_region_quiet_below (by kernel_rfl) (by kernel_rfl) ?_
  repeat (first
    | go_big_quiet_step (fail))
  refine wpQuiet_nil ?_
  intro _ hw'
  obtain ⟨⟨dq, osq⟩, hw''⟩ := hw'
  have hb := below_regrown W dq osq
  subst hw''
  generalize grow (redrawn W dq) osq = w1 at hb ⊢
  replace a0 := a0.below hb
  replace a1 := a1.below hb
  replace a2 := a2.below hb
  replace a3 := a3.below hb
  replace a4 := a4.below hb
  replace hB := hB.trans (hb.mono hB.size)
  clear hb
  clear q0 q1 q2
  have c0 : w1.cell? ⟨w.heap.size, 0, none⟩ = some (.slice a L.length k) := a0.cell 0 _ rfl
  go_wp2_with (first | refine load_part rfl 29 _ rfl (o := 1) a0 rfl (row8 c) (stc_c _ _ _) Try.underlying29 rfl sizeCt ?_ | refine load_blk rfl 28 _ rfl a1 rfl Try.underlying28 rfl sizeMb ?_ | refine load_blk rfl 64 _ rfl a2 rfl Try.underlying64 rfl sizeKt ?_)
  refine (rtake_no L a k c m x hc htb _ (lS.below hB)).mono ?_
  rintro r w2 ⟨⟨ra, rc, rfl, rl⟩, hb⟩
  have sV := hb.size
  have hw1 := a4.lt
  replace a0 := a0.below hb
  replace a1 := a1.below hb
  replace a2 := a2.below hb
  replace a4 := a4.below hb
  replace hB := hB.trans (hb.mono hB.size)
  clear hb c0 a3
  have hbx := below_box w2 (.cells (mbc c) 29)
  go_upto_region 4 with (first | refine alloc_zero zeroCt rfl rfl ?_ | refine store_new rfl 29 _ _ rfl (cells := mbc c) rfl rfl sizeCt rfl (mbc_one _) ?_)
  try simp only [Act.put]
  generalize w2.alloc (Obj.cells (mbc c) 29) = w3 at hbx ⊢
  replace a0 := a0.below hbx
  replace a4 := a4.below hbx
  replace hB := hB.trans (hbx.mono hB.size)
  clear hbx a1 a2 rl
  go_wp2_with (first | refine load_blk rfl 148 _ rfl a0 rfl Try.underlying148 rfl sizeSt ?_ | (refine store_part rfl 148 _ _ rfl (off := 0) (cells := (stc (.slice a L.length k) c (.slice b t.length j))) a4 rfl rfl sizeSt (Nat.le_refl _) (stc_one _ _ _ _ _ _ _) ?_; intro u4 c4 k4; rw [hpa] at c4; have hB4 := hB.trans (k4.below1 (by omega) hB.size)))
  exact bodyPost_ret (w := u4) (v := .agg (stc (.slice a L.length k) c (.slice b t.length j))) (ret_one rfl rfl c4 Try.underlying148 rfl sizeSt) rfl ⟨rfl, hB4⟩

set_option maxHeartbeats 8000000 in
theorem roffer_yes (L t : List Kt) (a b : Option Addr) (k j B : Nat) (c m o : Nat → Nat) (x : Kt) (hc : ∀ i, c i < 4294967296) (hL : (L.length + 1) * 352 ≤ 140737488355328) (hT : t.length ≤ 10) (ho : offB c m o x = true) (w : World) (lS : Li Kt.vals 0 a L w) (hg : Lg Kt.vals 38 64 B b j t w) (hBw : B ≤ w.heap.size) :
    Calls Try.prog 107 #[.agg (stc (.slice a L.length k) c (.slice b t.length j)), .agg (mbc m), .agg x.arr, .agg (mbc o)] w fun e w' => (∃ a' k' b' j', e = .returned (.agg (stc (.slice a' (takeL L x).length k') (takeC c x) (.slice b' (t ++ [x]).length j'))) ∧ Li Kt.vals w.heap.size a' (takeL L x) w' ∧ Lg Kt.vals 38 64 B b' j' (t ++ [x]) w') ∧ Below B w w' := by
  obtain ⟨iI, zI, hI, hz0, hsz, hby, hzs⟩ := infoKt
  have hpa : ∀ C D : Array Value, C.size = D.size → putAt C 0 D.toList = D := fun C D h => putAt_all C D h
  obtain ⟨a0, a1, a2, a3, a4, hB⟩ := five_blk (T0 := 148) (T1 := 28) (T2 := 64) (T3 := 29) (T4 := 148) (C0 := (stc (.slice a L.length k) c (.slice b t.length j))) (C1 := mbc m) (C2 := x.arr) (C3 := mbc o) (C4 := stc (.slice none 0 0) noMb (.slice none 0 0)) (w := w) rfl
  go_enter Try.func107, Try.ntmps107
  go_upto_region 1 with (refine alloc_zero zeroSt rfl rfl ?_)
  try simp only [Act.put, List.setIfInBounds_toArray, List.set_cons_zero, List.set_cons_succ]
  try simp only [alloc_size]
  generalize ((((w.alloc (Obj.cells (stc (.slice a L.length k) c (.slice b t.length j)) 148)).alloc (Obj.cells (mbc m) 28)).alloc (Obj.cells x.arr 64)).alloc (Obj.cells (mbc o) 29)).alloc (Obj.cells (stc (Value.slice none 0 0) noMb (Value.slice none 0 0)) 148) = W at a0 a1 a2 a3 a4 hB ⊢
  have q0 : ∀ d' os, (grow (redrawn W d') os).cell? ⟨w.heap.size + 1 + 1, 0, none⟩ = some (.int .i64 x.fr) := cell_regrown (a2.cell 0 _ x.get0)
  have q1 : ∀ d' os, (grow (redrawn W d') os).cell? ⟨w.heap.size + 1 + 1, 1, none⟩ = some (.int .u32 (x.rd : Int)) := cell_regrown (a2.cell 1 _ x.get1)
  have h01 : decide (0 ≤ x.fr ∧ x.fr < 8) = true := by
    unfold offB at ho
    simp only [Bool.and_eq_true] at ho
    exact ho.1
  have h02 := of_decide_eq_true h01
  obtain ⟨d, hd⟩ : ∃ d : Nat, x.fr = (d : Int) := ⟨x.fr.toNat, by omega⟩
  have hd8 : d < 8 := by omega
  have q2 : ∀ d' os, (grow (redrawn W d') os).cell? ⟨w.heap.size + 1 + 1 + 1, d, none⟩ = some (.int .u32 (o d : Int)) := cell_regrown (a3.cell d _ (mbc_get o d hd8))
  have d0 : decide ((d : Int) < 0) = false := by simp
  have d1 : decide ((7 : Int) < (d : Int)) = false := by simp; omega
  have d2 : (d : Int) < 8 := by omega
  have d3 : (0 : Int) ≤ (d : Int) := by omega
  have d4 : Int.tmod (d : Int) 8 = (d : Int) := Int.tmod_eq_of_lt d3 d2
  rw [hd] at q0
  have hm : x.rd ≤ o d := by
    unfold offB at ho
    simp only [Bool.and_eq_true] at ho
    have := of_decide_eq_true ho.2.1
    rw [hd] at this
    simpa using this
  have d5 : decide (o d < x.rd) = false := by simp; omega
  have htb : takesB c m x = true := by rw [← offB_in c m o x d hd hd8 hm]; exact ho
  clear h01 h02
  refine wp_region_quiet_below (by kernel_rfl) (by kernel_rfl) ?_
  repeat (first
    | go_big_quiet_step (fail))
  refine wpQuiet_nil ?_
  intro _ hw'
  obtain ⟨⟨dq, osq⟩, hw''⟩ := hw'
  have hb := below_regrown W dq osq
  subst hw''
  generalize grow (redrawn W dq) osq = w1 at hb ⊢
  replace a0 := a0.below hb
  replace a1 := a1.below hb
  replace a2 := a2.below hb
  replace a3 := a3.below hb
  replace a4 := a4.below hb
  replace hB := hB.trans (hb.mono hB.size)
  clear hb
  clear q0 q1 q2
  have hg1 : Lg Kt.vals 38 64 B b j t w1 := hg.below hB
  have sW := hB.size
  have c0 : w1.cell? ⟨w.heap.size, 0, none⟩ = some (.slice a L.length k) := a0.cell 0 _ rfl
  go_wp2_with (first | refine load_part rfl 29 _ rfl (o := 1) a0 rfl (row8 c) (stc_c _ _ _) Try.underlying29 rfl sizeCt ?_ | refine load_blk rfl 28 _ rfl a1 rfl Try.underlying28 rfl sizeMb ?_ | refine load_blk rfl 64 _ rfl a2 rfl Try.underlying64 rfl sizeKt ?_)
  refine (rtake_yes L a k c m x hc hL htb _ (lS.below hB)).mono ?_
  rintro r w2 ⟨⟨ra, rc, rfl, rl⟩, hb⟩
  have sV := hb.size
  have hw1 := a4.lt
  replace a0 := a0.below hb
  replace a1 := a1.below hb
  replace a2 := a2.below hb
  replace a4 := a4.below hb
  replace hB := hB.trans (hb.mono hB.size)
  clear hb c0 a3
  have htg0 := hg.in
  have hg2 : Lg Kt.vals 38 64 B b j t w2 := hg.below hB
  have hbx := below_box w2 (.cells (mbc (takeC c x)) 29)
  have b5 := blk_new w2 (mbc (takeC c x)) 29
  go_upto_region 4 with (first | refine alloc_zero zeroCt rfl rfl ?_ | refine store_new rfl 29 _ _ rfl (cells := mbc (takeC c x)) rfl rfl sizeCt rfl (mbc_one _) ?_)
  try simp only [Act.put]
  generalize w2.alloc (Obj.cells (mbc (takeC c x)) 29) = w3 at hbx b5 ⊢
  replace a0 := a0.below hbx
  replace a2 := a2.below hbx
  replace a4 := a4.below hbx
  replace rl := rl.below hbx
  replace hg2 := hg2.below hbx
  replace hB := hB.trans (hbx.mono hB.size)
  have hs23 := hbx.size
  clear hbx a1 hg hg1
  generalize w2.heap.size = v5 at *
  have hno : ∀ A, w.heap.size ≤ A → A ∉ blkOf b := fun A hA hm => absurd (htg0 A hm).2 (by omega)
  have hBl : ∀ A ∈ blkOf b, B ≤ A := fun A hm => (htg0 A hm).1
  go_wp2_with (first | (refine store_one rfl 30 _ _ rfl (off := 0) (.slice ra (takeL L x).length rc) a0 rfl rfl rfl rfl sizeSl (by rw [stc_size]; omega) ?_; intro u5 c5 k5; rw [stc_set_v] at c5; have b55 := b5.kp1 k5 (by omega)) | refine load_blk rfl 29 _ rfl b55 rfl Try.underlying29 rfl sizeCt ?_ | (refine store_part rfl 29 _ _ rfl (off := 1) (cells := mbc (takeC c x)) c5 rfl rfl sizeCt (by rw [stc_size, mbc_size]; omega) (mbc_one _) ?_; intro u6 c6 k6; rw [stc_set_c] at c6; have a26 := (a2.kp1 k5 (by omega)).kp1 k6 (by omega); have hg6 := (hg2.away k5 (hno _ (Nat.le_refl _))).away k6 (hno _ (Nat.le_refl _)); have t9 : u6.cell? ⟨w.heap.size, 9, none⟩ = some (.slice b t.length j) := (c6.cell 9 _ rfl); have hbx := below_box u6 (.cells x.arr 64); have hg7 := hg6.below hbx; have hx := (li_box (f := Kt.vals) u6 x 64 0 (Nat.zero_le _)).src (P := Try.prog) Kt.vals_length Kt.vals_one Try.underlying30 1; have hs36 : w3.heap.size ≤ u6.heap.size := (Nat.le_trans k5.size k6.size); have hs5 : B ≤ (u6.alloc (.cells x.arr 64)).heap.size := (by have := hbx.size; have := hB.size; omega); have c7 := c6.below hbx) | refine load_blk rfl 64 _ rfl a26 rfl Try.underlying64 rfl sizeKt ?_ | refine box_kt rfl _ rfl x rfl ?_ | (refine append_ln Kt.vals_length rfl _ _ rfl Try.underlying30 hI hz0 hsz hby hzs hg7 hs5 rfl rfl (M := [x]) (by simp) hx rfl (by simp only [List.length_cons, List.length_nil]; omega) (by simp only [List.length_cons, List.length_nil, maxLen]; omega) ?_; intro ad' cap' u8 hg8 k8 h8; have c8 := c7.kp k8 (hno _ (Nat.le_refl _))) | (refine store_one rfl 30 _ _ rfl (off := 9) (.slice ad' (t.length + [x].length) cap') c8 rfl rfl rfl rfl sizeSl (by rw [stc_size]; omega) ?_; intro u9 c9 k9; rw [stc_set_u] at c9; have a49 := ((((a4.kp1 k5 (by omega)).kp1 k6 (by omega)).below hbx).kp k8 (hno _ (by omega))).kp1 k9 (by omega)) | refine load_blk rfl 148 _ rfl c9 rfl Try.underlying148 rfl sizeSt ?_ | (refine store_part rfl 148 _ _ rfl (off := 0) (cells := stc (.slice ra (takeL L x).length rc) (takeC c x) (.slice ad' (t.length + [x].length) cap')) a49 rfl rfl sizeSt (Nat.le_refl _) (stc_one _ _ _ _ _ _ _) ?_; intro u10 c10 k10; rw [hpa _ _ (by rfl)] at c10))
  have hB6 := (hB.trans (k5.below1 (Nat.le_refl _) hB.size))
  have hB7 := (hB6.trans (k6.below1 (Nat.le_refl _) hB6.size))
  have hB8 := (hB7.trans (hbx.mono hB7.size)).mono hBw
  have hB9 := hB8.trans (k8.below hBl (Nat.le_trans hBw hB8.size))
  have hB10 := hB9.trans (k9.below1 hBw (Nat.le_trans hBw hB9.size))
  have hB11 := hB10.trans (k10.below1 (by omega) (Nat.le_trans hBw hB10.size))
  have hnew : ∀ A, w.heap.size ≤ A → A < u6.heap.size → A ∉ blkOf ad' := fun A h1 h2 hm => by
    rcases h8 A hm with h | h
    · exact hno A h1 h
    · have := hbx.size; omega
  have hg10 := (hg8.away k9 (hnew _ (Nat.le_refl _) (by omega))).away k10 (hnew _ (by omega) (by omega))
  have rl10 : Li Kt.vals w.heap.size ra (takeL L x) u10 := ((((((rl.kp k5 (by simp; omega)).kp k6 (by simp; omega)).below hbx).kp k8 (fun A hm => Nat.lt_of_lt_of_le (htg0 A hm).2 sW)).kp k9 (by simp; omega)).kp k10 (by simp; omega)).mono sW
  refine bodyPost_ret (w := u10) (v := .agg (stc (.slice ra (takeL L x).length rc) (takeC c x) (.slice ad' (t ++ [x]).length cap'))) ?_ rfl ⟨⟨ra, rc, ad', cap', rfl, rl10, hg10⟩, hB11⟩
  rw [List.length_append]
  exact ret_one rfl rfl c10 Try.underlying148 rfl sizeSt

end Go.Proofs.Ythgmecgknhphmaa
