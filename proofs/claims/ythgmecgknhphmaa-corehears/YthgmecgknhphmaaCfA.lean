/-
  How a core begins, whether it may be, what it promises, as the document's own calls say (congressref13.Start, Fits, promise).
  No condition.
-/
import Derived.Test.YthgmecgknhphmaaCeU
import Derived.Test.YthgmecgknhphmaaGaA
namespace Go.Proofs.Ythgmecgknhphmaa
set_option maxRecDepth 10000
open Go.RowKit Go.Sort
set_option linter.unusedVariables false

set_option maxHeartbeats 4000000 in
theorem rstart_ok (sI : Int) (n : Nat) (wt : Int) (w : World) : Calls Try.prog 21 #[.int .i64 sI, .int .u32 (n : Int), .int .i64 wt] w fun e w' => e = .returned (.tuple #[.agg (coc (startC sI n wt)), .bool (startB sI n wt)]) ∧ Below w.heap.size w w' := by
  have a0 := blk_new w (coc Co.zero) 35
  have hB : Below w.heap.size w (w.alloc (.cells (coc Co.zero) 35)) := below_box w _
  obtain ⟨R, hR⟩ : ∃ R, Hid (startC sI n wt = R) := ⟨_, rfl⟩
  obtain ⟨Q, hQ⟩ : ∃ R, Hid (startB sI n wt = R) := ⟨_, rfl⟩
  rw [hR.out, hQ.out]
  have hno : ¬ (0 ≤ sI ∧ sI ≤ 7 ∧ n ≠ 0 ∧ 1 ≤ wt ∧ wt ≤ 1000) → R = Co.zero ∧ Q = false := fun h => by
    have e : startB sI n wt = false := decide_eq_false h
    rw [← hR.out, ← hQ.out, startC, e]
    exact ⟨rfl, rfl⟩
  go_enter Try.func21, Try.ntmps21
  go_upto_region 1 with (refine alloc_zero zeroCo rfl rfl ?_)
  try simp only [Act.put, List.setIfInBounds_toArray, List.set_cons_zero, List.set_cons_succ]
  generalize w.alloc (Obj.cells (coc Co.zero) 35) = W at a0 hB ⊢
  have hW := a0.lt
  by_cases h1 : sI < 0
  · obtain ⟨rfl, rfl⟩ := hno (by omega)
    go_wp2_with (first | (refine build_as rfl 35 #[] rfl (C := coc Co.zero) ?_ ?_; kernel_rfl) | (refine store_part rfl 35 _ _ rfl (off := 0) (cells := coc Co.zero) a0 rfl rfl sizeCo (Nat.le_refl _) (coc_one _) ?_; intro w9 b9 k9; rw [Co.all] at b9; have hB9 : Below w.heap.size w w9 := hB.trans (k9.below1 (by omega) hB.size)))
    exact bodyPost_ret (w := w9) (v := .tuple #[.agg (coc Co.zero), .bool false]) (ret_two rfl rfl b9 Try.underlying35 rfl sizeCo rfl) rfl ⟨rfl, hB9⟩
  by_cases h2 : 7 < sI
  · obtain ⟨rfl, rfl⟩ := hno (by omega)
    go_wp2_with (first | (refine build_as rfl 35 #[] rfl (C := coc Co.zero) ?_ ?_; kernel_rfl) | (refine store_part rfl 35 _ _ rfl (off := 0) (cells := coc Co.zero) a0 rfl rfl sizeCo (Nat.le_refl _) (coc_one _) ?_; intro w9 b9 k9; rw [Co.all] at b9; have hB9 : Below w.heap.size w w9 := hB.trans (k9.below1 (by omega) hB.size)))
    exact bodyPost_ret (w := w9) (v := .tuple #[.agg (coc Co.zero), .bool false]) (ret_two rfl rfl b9 Try.underlying35 rfl sizeCo rfl) rfl ⟨rfl, hB9⟩
  by_cases h3 : n = 0
  · subst h3
    obtain ⟨rfl, rfl⟩ := hno (by omega)
    go_wp2_with (first | (refine build_as rfl 35 #[] rfl (C := coc Co.zero) ?_ ?_; kernel_rfl) | (refine store_part rfl 35 _ _ rfl (off := 0) (cells := coc Co.zero) a0 rfl rfl sizeCo (Nat.le_refl _) (coc_one _) ?_; intro w9 b9 k9; rw [Co.all] at b9; have hB9 : Below w.heap.size w w9 := hB.trans (k9.below1 (by omega) hB.size)))
    exact bodyPost_ret (w := w9) (v := .tuple #[.agg (coc Co.zero), .bool false]) (ret_two rfl rfl b9 Try.underlying35 rfl sizeCo rfl) rfl ⟨rfl, hB9⟩
  have h3' : ¬ (n : Int) = 0 := by omega
  by_cases h4 : wt < 1
  · obtain ⟨rfl, rfl⟩ := hno (by omega)
    go_wp2_with (first | (refine build_as rfl 35 #[] rfl (C := coc Co.zero) ?_ ?_; kernel_rfl) | (refine store_part rfl 35 _ _ rfl (off := 0) (cells := coc Co.zero) a0 rfl rfl sizeCo (Nat.le_refl _) (coc_one _) ?_; intro w9 b9 k9; rw [Co.all] at b9; have hB9 : Below w.heap.size w w9 := hB.trans (k9.below1 (by omega) hB.size)))
    exact bodyPost_ret (w := w9) (v := .tuple #[.agg (coc Co.zero), .bool false]) (ret_two rfl rfl b9 Try.underlying35 rfl sizeCo rfl) rfl ⟨rfl, hB9⟩
  by_cases h5 : 1000 < wt
  · obtain ⟨rfl, rfl⟩ := hno (by omega)
    go_wp2_with (first | (refine build_as rfl 35 #[] rfl (C := coc Co.zero) ?_ ?_; kernel_rfl) | (refine store_part rfl 35 _ _ rfl (off := 0) (cells := coc Co.zero) a0 rfl rfl sizeCo (Nat.le_refl _) (coc_one _) ?_; intro w9 b9 k9; rw [Co.all] at b9; have hB9 : Below w.heap.size w w9 := hB.trans (k9.below1 (by omega) hB.size)))
    exact bodyPost_ret (w := w9) (v := .tuple #[.agg (coc Co.zero), .bool false]) (ret_two rfl rfl b9 Try.underlying35 rfl sizeCo rfl) rfl ⟨rfl, hB9⟩
  obtain ⟨s, rfl⟩ : ∃ s : Nat, sI = (s : Int) := ⟨sI.toNat, by omega⟩
  have hs : s < 8 := by omega
  have s1 : (0 : Int) ≤ (s : Int) := by omega
  have s0 : (s : Int) < 8 := by omega
  have hws : IntKind.u32.wrap (s : Int) = (s : Int) := by rw [IntKind.wrap_u32]; omega
  have e : startB (s : Int) n wt = true := decide_eq_true ⟨by omega, by omega, h3, by omega, by omega⟩
  obtain rfl : Q = true := by rw [← hQ.out, e]
  obtain rfl : R = (Co.mk (s : Int) wt n Bt.zero (Idn.mk 0 s n) (put8 noMb s n) noMb none 0 0 (Idn.mk 0 s n) (put8 noMb s n) noMb false noPe 0) := by rw [← hR.out, startC, e, if_pos rfl, Int.toNat_natCast]
  clear hR hQ hno e
  have hb := below_box W (.cells (mbc noMb) 28)
  have m0 := blk_new W (mbc noMb) 28
  go_upto_region 4 with (first | (refine build_as rfl 28 #[] rfl (C := mbc noMb) ?_ ?_; kernel_rfl) | refine alloc_zero zeroMb rfl rfl ?_ | refine store_new rfl 28 _ _ rfl (cells := mbc noMb) rfl rfl sizeMb rfl (mbc_one _) ?_)
  try simp only [Act.put, List.setIfInBounds_toArray, List.set_cons_zero, List.set_cons_succ]
  generalize W.alloc (Obj.cells (mbc noMb) 28) = W1 at m0 hb ⊢
  replace a0 := a0.below hb
  replace hB := hB.trans (hb.mono hB.size)
  clear hb 
  generalize W.heap.size = y at m0 hW ⊢
  clear h1 h2 h3 h3' h4 h5
  go_upto_region 5 with (refine store_one rfl 22 _ _ rfl (off := s) (.int .u32 (n : Int)) m0 rfl rfl rfl rfl sizeU32 (by rw [mbc_size]; omega) ?_; intro w2 b2 k2; rw [mbc_put _ s n hs] at b2)
  try simp only [Act.put]
  replace a0 := a0.kp1 k2 (by omega)
  replace hB := hB.trans (k2.below1 (by omega) hB.size)
  clear k2 m0
  have hb := below_box w2 (.cells (Idn.mk 0 s n).arr 27)
  have i0 := blk_new w2 (Idn.mk 0 s n).arr 27
  go_upto_region 6 with (first | (refine build_as rfl 27 #[(1, .tmp 34), (2, .tmp 35)] rfl (C := (Idn.mk 0 s n).arr) ?_ ?_; kernel_rfl) | refine alloc_zero zeroIdn rfl rfl ?_ | refine store_new rfl 27 _ _ rfl (cells := (Idn.mk 0 s n).arr) rfl rfl sizeIdn rfl (Idn.arr_one _) ?_)
  try simp only [Act.put, List.setIfInBounds_toArray, List.set_cons_zero, List.set_cons_succ]
  generalize w2.alloc (Obj.cells (Idn.mk 0 s n).arr 27) = W2 at i0 hb ⊢
  replace a0 := a0.below hb
  replace b2 := b2.below hb
  replace hB := hB.trans (hb.mono hB.size)
  clear hb 
  go_wp2_with (first | refine load_blk rfl 27 _ rfl i0 rfl Try.underlying27 rfl sizeIdn ?_ | refine load_blk rfl 28 _ rfl b2 rfl Try.underlying28 rfl sizeMb ?_ | (refine build_as rfl 35 #[(0, .tmp 37), (1, .tmp 38), (2, .tmp 39), (4, .tmp 40), (5, .tmp 41), (8, .tmp 42), (9, .tmp 43)] rfl (C := coc (Co.mk (s : Int) wt n Bt.zero (Idn.mk 0 s n) (put8 noMb s n) noMb none 0 0 (Idn.mk 0 s n) (put8 noMb s n) noMb false noPe 0)) ?_ ?_; kernel_rfl) | (refine store_part rfl 35 _ _ rfl (off := 0) (cells := coc (Co.mk (s : Int) wt n Bt.zero (Idn.mk 0 s n) (put8 noMb s n) noMb none 0 0 (Idn.mk 0 s n) (put8 noMb s n) noMb false noPe 0)) a0 rfl rfl sizeCo (Nat.le_refl _) (coc_one _) ?_; intro w9 b9 k9; rw [Co.all] at b9; have hB9 : Below w.heap.size w w9 := hB.trans (k9.below1 (by omega) hB.size)))
  exact bodyPost_ret (w := w9) (v := .tuple #[.agg (coc (Co.mk (s : Int) wt n Bt.zero (Idn.mk 0 s n) (put8 noMb s n) noMb none 0 0 (Idn.mk 0 s n) (put8 noMb s n) noMb false noPe 0)), .bool true]) (ret_two rfl rfl b9 Try.underlying35 rfl sizeCo rfl) rfl ⟨rfl, hB9⟩

def fitsB (c : Co) : Bool := decide (0 ≤ c.self ∧ c.self ≤ 7 ∧ c.own ≠ 0)
set_option maxHeartbeats 2000000 in
theorem rfits_ok (c : Co) (w : World) : Calls Try.prog 10 #[.agg (coc c)] w fun e w' => e = .returned (.bool (fitsB c)) ∧ Below w.heap.size w w' := by
  have a0 := blk_new w (coc c) 35
  have hB : Below w.heap.size w (w.alloc (.cells (coc c) 35)) := below_box w _
  obtain ⟨Q, hQ⟩ : ∃ R, Hid (fitsB c = R) := ⟨_, rfl⟩
  rw [hQ.out]
  obtain ⟨sI, hsI⟩ : ∃ s, c.self = s := ⟨_, rfl⟩
  go_enter Try.func10, Try.ntmps10
  go_upto_region 1 with fail
  generalize w.alloc (Obj.cells (coc c) 35) = W at a0 hB ⊢
  have c0 := a0.cell 0 (.int .i64 c.self) rfl
  rw [hsI] at c0
  have c1 := a0.cell 2 (.int .u32 (c.own : Int)) rfl
  by_cases h1 : 0 ≤ sI
  · by_cases h2 : sI ≤ 7
    · by_cases h3 : c.own = 0
      · obtain rfl : Q = false := by rw [← hQ.out, fitsB]; exact decide_eq_false (by rintro ⟨_, _, h⟩; exact h h3)
        rw [h3] at c1
        go_wp2_with fail
        go_ret
        exact ⟨rfl, hB⟩
      · obtain rfl : Q = true := by rw [← hQ.out, fitsB, hsI]; exact decide_eq_true ⟨h1, h2, h3⟩
        have h3' : ((c.own : Int) != 0) = true := by rw [bne_iff_ne]; omega
        go_wp2_with fail
        go_ret
        exact ⟨rfl, hB⟩
    · obtain rfl : Q = false := by rw [← hQ.out, fitsB, hsI]; exact decide_eq_false (by rintro ⟨_, h, _⟩; exact h2 h)
      go_wp2_with fail
      go_ret
      exact ⟨rfl, hB⟩
  · obtain rfl : Q = false := by rw [← hQ.out, fitsB, hsI]; exact decide_eq_false (by rintro ⟨h, _, _⟩; exact h1 h)
    go_wp2_with fail
    go_ret
    exact ⟨rfl, hB⟩

set_option maxHeartbeats 4000000 in
theorem rprom_ok (c : Co) (ta : Option Addr) (tn tk : Nat) (x : Idn) (m : Nat → Nat) (w : World) : Calls Try.prog 37 #[.agg (unc c (.slice ta tn tk)), .agg x.arr, .agg (mbc m)] w fun e w' => e = .returned (.agg (unc (promC c x m) (.slice ta tn tk))) ∧ Below w.heap.size w w' := by
  obtain ⟨a0, a1, a2, a3, hB⟩ := four_blk (T0 := 83) (T1 := 27) (T2 := 28) (T3 := 83) (C0 := unc c (.slice ta tn tk)) (C1 := x.arr) (C2 := mbc m) (C3 := unc Co.zero (.slice none 0 0)) (w := w) rfl
  go_enter Try.func37, Try.ntmps37
  go_upto_region 1 with (refine alloc_zero zeroSg rfl rfl ?_)
  try simp only [Act.put, List.setIfInBounds_toArray, List.set_cons_zero, List.set_cons_succ]
  try simp only [alloc_size]
  generalize (((w.alloc (Obj.cells (unc c (.slice ta tn tk)) 83)).alloc (Obj.cells x.arr 27)).alloc (Obj.cells (mbc m) 28)).alloc (Obj.cells (unc Co.zero (.slice none 0 0)) 83) = W at a0 a1 a2 a3 hB ⊢
  go_upto_region 2 with (first | refine load_blk rfl 27 _ rfl a1 rfl Try.underlying27 rfl sizeIdn ?_ | (refine store_part rfl 27 _ _ rfl (off := 40) (cells := x.arr) a0 rfl rfl sizeIdn (show 40 + 3 ≤ 190 by decide) x.arr_one ?_; intro w1 b1 k1; rw [unc_put _ _ _ 40 _ (Co.s_pr c x) (show 40 + 3 ≤ 189 by decide)] at b1))
  try simp only [Act.put]
  replace a2 := a2.kp1 k1 (by omega)
  replace a3 := a3.kp1 k1 (by omega)
  replace hB := hB.trans (k1.below1 (by omega) hB.size)
  clear k1
  go_upto_region 3 with (first | refine load_blk rfl 28 _ rfl a2 rfl Try.underlying28 rfl sizeMb ?_ | (refine store_part rfl 28 _ _ rfl (off := 43) (cells := (mbc m)) b1 rfl rfl sizeMb (show 43 + 8 ≤ 190 by decide) (mbc_one _) ?_; intro w2 b2 k2; rw [unc_put _ _ _ 43 _ (Co.s_want _ m) (show 43 + 8 ≤ 189 by decide)] at b2))
  try simp only [Act.put]
  replace a3 := a3.kp1 k2 (by omega)
  replace hB := hB.trans (k2.below1 (by omega) hB.size)
  clear k2
  go_upto_region 4 with (first | refine load_part rfl 29 _ rfl (o := 31) b2 rfl (row8 c.count) (un_count _ _) Try.underlying29 rfl sizeCt ?_ | (refine store_part rfl 29 _ _ rfl (off := 51) (cells := (mbc c.count)) b2 rfl rfl sizeCt (show 51 + 8 ≤ 190 by decide) (mbc_one _) ?_; intro w3 b3 k3; rw [unc_put _ _ _ 51 _ (Co.s_cut _ c.count) (show 51 + 8 ≤ 189 by decide)] at b3))
  try simp only [Act.put]
  replace a3 := a3.kp1 k3 (by omega)
  replace hB := hB.trans (k3.below1 (by omega) hB.size)
  clear k3
  go_upto_region 5 with ((refine store_one rfl 4 _ _ rfl (off := 59) (.bool false) b3 rfl rfl rfl rfl sizeBool (by rw [unc_size]; decide) ?_; intro w4 b4 k4; rw [unc_set _ _ _ 59 _ (Co.s_rdy _ false) (by decide)] at b4))
  try simp only [Act.put]
  replace a3 := a3.kp1 k4 (by omega)
  replace hB := hB.trans (k4.below1 (by omega) hB.size)
  clear k4
  have q4 : Blk w.heap.size (unc (promC c x m) (.slice ta tn tk)) 83 w4 := b4
  obtain ⟨d, hd⟩ : ∃ d, promC c x m = d := ⟨_, rfl⟩
  rw [hd] at q4
  clear b4 b3 b2 b1 a0 a1 a2
  go_wp2_with (first | refine load_blk rfl 83 _ rfl q4 rfl Try.underlying83 rfl sizeSg ?_ | (refine store_part rfl 83 _ _ rfl (off := 0) (cells := unc d (.slice ta tn tk)) a3 rfl rfl sizeSg (Nat.le_refl _) (unc_one _ _ _ _) ?_; intro w9 b9 k9; rw [unc_all] at b9; have hB9 : Below w.heap.size w w9 := hB.trans (k9.below1 (by omega) hB.size)))
  exact bodyPost_ret (w := w9) (v := .agg (unc d (.slice ta tn tk))) (ret_one rfl rfl b9 Try.underlying83 rfl sizeSg) rfl ⟨by rw [hd], hB9⟩

end Go.Proofs.Ythgmecgknhphmaa
