/-
  How a core begins: what the call answers (core.Start).
  No condition.
-/
import Derived.Test.YthgmecgknhphmaaCeM
import Derived.Test.YthgmecgknhphmaaBase
namespace Go.Proofs.Ythgmecgknhphmaa
set_option maxRecDepth 10000
open Go.RowKit Go.Sort
set_option linter.unusedVariables false

theorem Co.s_memi (c : Co) (i n : Nat) (h : i < 8) : (coc c).setIfInBounds (23 + i) (.int .u32 (n : Int)) = coc (⟨c.self, c.wait, c.own, c.beat, c.conf, put8 c.mem i n, c.count, c.ka, c.kn, c.kc, c.pr, c.want, c.cut, c.rdy, c.peers, c.epoch⟩ : Co) := by
  obtain rfl | rfl | rfl | rfl | rfl | rfl | rfl | rfl : i = 0 ∨ i = 1 ∨ i = 2 ∨ i = 3 ∨ i = 4 ∨ i = 5 ∨ i = 6 ∨ i = 7 := by omega
  all_goals kernel_rfl

set_option maxHeartbeats 4000000 in
theorem start_ok (sI : Int) (n : Nat) (wt : Int) (w : World) : Calls Try.prog 20 #[.int .i64 sI, .int .u32 (n : Int), .int .i64 wt] w fun e w' => e = .returned (.tuple #[.agg (coc (startC sI n wt)), .bool (startB sI n wt)]) ∧ Below w.heap.size w w' := by
  have a0 := blk_new w (coc Co.zero) 35
  have hB : Below w.heap.size w (w.alloc (.cells (coc Co.zero) 35)) := below_box w _
  obtain ⟨R, hR⟩ : ∃ R, Hid (startC sI n wt = R) := ⟨_, rfl⟩
  obtain ⟨Q, hQ⟩ : ∃ R, Hid (startB sI n wt = R) := ⟨_, rfl⟩
  rw [hR.out, hQ.out]
  have hno : ¬ (0 ≤ sI ∧ sI ≤ 7 ∧ n ≠ 0 ∧ 1 ≤ wt ∧ wt ≤ 1000) → R = Co.zero ∧ Q = false := fun h => by
    have e : startB sI n wt = false := decide_eq_false h
    rw [← hR.out, ← hQ.out, startC, e]
    exact ⟨rfl, rfl⟩
  go_enter Try.func20, Try.ntmps20
  go_upto_region 1 with (refine alloc_zero zeroCo rfl rfl ?_)
  try simp only [Act.put, List.setIfInBounds_toArray, List.set_cons_zero, List.set_cons_succ]
  generalize w.alloc (Obj.cells (coc Co.zero) 35) = W at a0 hB ⊢
  have hW := a0.lt
  by_cases h1 : sI < 0
  · obtain ⟨rfl, rfl⟩ := hno (by omega)
    go_wp2_with (first | (refine build_as rfl 35 #[] rfl (C := coc Co.zero) ?_ ?_; kernel_rfl) | (refine store_part rfl 35 _ _ rfl (off := 0) (cells := coc Co.zero) a0 rfl rfl sizeCo (Nat.le_refl _) (coc_one _) ?_; intro w9 b9 k9; rw [Co.all] at b9; have hB9 : Below w.heap.size w w9 := hB.trans (k9.below1 (by omega) hB.size)))
    exact bodyPost_ret (w := w9) (v := .tuple #[.agg (coc Co.zero), .bool false]) (ret_two rfl rfl b9 Try.underlying35 rfl sizeCo rfl) rfl ⟨rfl, hB9⟩
  by_cases h2 : sI < 8
  · by_cases h3 : n = 0
    · subst h3
      obtain ⟨rfl, rfl⟩ := hno (by omega)
      have h2' : ¬ 8 ≤ sI := by omega
      go_wp2_with (first | (refine build_as rfl 35 #[] rfl (C := coc Co.zero) ?_ ?_; kernel_rfl) | (refine store_part rfl 35 _ _ rfl (off := 0) (cells := coc Co.zero) a0 rfl rfl sizeCo (Nat.le_refl _) (coc_one _) ?_; intro w9 b9 k9; rw [Co.all] at b9; have hB9 : Below w.heap.size w w9 := hB.trans (k9.below1 (by omega) hB.size)))
      exact bodyPost_ret (w := w9) (v := .tuple #[.agg (coc Co.zero), .bool false]) (ret_two rfl rfl b9 Try.underlying35 rfl sizeCo rfl) rfl ⟨rfl, hB9⟩
    · have h3' : ¬ (n : Int) = 0 := by omega
      by_cases h4 : wt < 1
      · obtain ⟨rfl, rfl⟩ := hno (by omega)
        have h2' : ¬ 8 ≤ sI := by omega
        go_wp2_with (first | (refine build_as rfl 35 #[] rfl (C := coc Co.zero) ?_ ?_; kernel_rfl) | (refine store_part rfl 35 _ _ rfl (off := 0) (cells := coc Co.zero) a0 rfl rfl sizeCo (Nat.le_refl _) (coc_one _) ?_; intro w9 b9 k9; rw [Co.all] at b9; have hB9 : Below w.heap.size w w9 := hB.trans (k9.below1 (by omega) hB.size)))
        exact bodyPost_ret (w := w9) (v := .tuple #[.agg (coc Co.zero), .bool false]) (ret_two rfl rfl b9 Try.underlying35 rfl sizeCo rfl) rfl ⟨rfl, hB9⟩
      by_cases h5 : 1000 < wt
      · obtain ⟨rfl, rfl⟩ := hno (by omega)
        have h2' : ¬ 8 ≤ sI := by omega
        go_wp2_with (first | (refine build_as rfl 35 #[] rfl (C := coc Co.zero) ?_ ?_; kernel_rfl) | (refine store_part rfl 35 _ _ rfl (off := 0) (cells := coc Co.zero) a0 rfl rfl sizeCo (Nat.le_refl _) (coc_one _) ?_; intro w9 b9 k9; rw [Co.all] at b9; have hB9 : Below w.heap.size w w9 := hB.trans (k9.below1 (by omega) hB.size)))
        exact bodyPost_ret (w := w9) (v := .tuple #[.agg (coc Co.zero), .bool false]) (ret_two rfl rfl b9 Try.underlying35 rfl sizeCo rfl) rfl ⟨rfl, hB9⟩
      obtain ⟨s, rfl⟩ : ∃ s : Nat, sI = (s : Int) := ⟨sI.toNat, by omega⟩
      have hs : s < 8 := by omega
      have h2' : ¬ (8 : Int) ≤ (s : Int) := by omega
      have s1 : (0 : Int) ≤ (s : Int) := by omega
      have s0 : (s : Int) < 8 := by omega
      have hws : IntKind.u32.wrap (s : Int) = (s : Int) := by rw [IntKind.wrap_u32]; omega
      have e : startB (s : Int) n wt = true := decide_eq_true ⟨by omega, by omega, h3, by omega, by omega⟩
      obtain rfl : Q = true := by rw [← hQ.out, e]
      have eR : R = ⟨(s : Int), wt, n, Bt.zero, ⟨0, s, n⟩, put8 noMb s n, noMb, none, 0, 0, ⟨0, s, n⟩, put8 noMb s n, noMb, false, noPe, 0⟩ := by
        rw [← hR.out, startC, e, if_pos rfl, Int.toNat_natCast]
      clear hR hQ hno e
      have hb := below_box W (.cells (coc (Co.mk (s : Int) wt n Bt.zero Idn.zero noMb noMb none 0 0 Idn.zero noMb noMb false noPe 0)) 35)
      have q0 := blk_new W (coc (Co.mk (s : Int) wt n Bt.zero Idn.zero noMb noMb none 0 0 Idn.zero noMb noMb false noPe 0)) 35
      go_upto_region 4 with (first | (refine build_as rfl 35 #[(0, .tmp 28), (2, .tmp 29), (1, .tmp 30)] rfl (C := coc (Co.mk (s : Int) wt n Bt.zero Idn.zero noMb noMb none 0 0 Idn.zero noMb noMb false noPe 0)) ?_ ?_; kernel_rfl) | refine alloc_zero zeroCo rfl rfl ?_ | refine store_new rfl 35 _ _ rfl (cells := coc (Co.mk (s : Int) wt n Bt.zero Idn.zero noMb noMb none 0 0 Idn.zero noMb noMb false noPe 0)) rfl rfl sizeCo rfl (coc_one _) ?_)
      try simp only [Act.put, List.setIfInBounds_toArray, List.set_cons_zero, List.set_cons_succ]
      generalize W.alloc (Obj.cells (coc (Co.mk (s : Int) wt n Bt.zero Idn.zero noMb noMb none 0 0 Idn.zero noMb noMb false noPe 0)) 35) = W1 at q0 hb ⊢
      replace a0 := a0.below hb
      replace hB := hB.trans (hb.mono hB.size)
      clear hb 
      generalize W.heap.size = Y at q0 hW ⊢
      clear h1 h2 h3 h3' h4 h5 h2'
      go_upto_region 5 with (first | (refine build_as rfl 27 #[(1, .tmp 33), (2, .tmp 34)] rfl (C := (Idn.mk 0 s n).arr) ?_ ?_; kernel_rfl) | (refine store_part rfl 27 _ _ rfl (off := 20) (cells := (Idn.mk 0 s n).arr) q0 rfl rfl sizeIdn (show 20 + 3 ≤ 189 by decide) (Idn.arr_one _) ?_; intro w2 b2 k2; rw [Co.s_conf] at b2))
      try simp only [Act.put]
      go_upto_region 6 with (refine store_one rfl 22 _ _ rfl (off := 23 + s) (.int .u32 (n : Int)) b2 rfl rfl rfl rfl sizeU32 (by rw [coc_size]; omega) ?_; intro w3 b3 k3; rw [Co.s_memi _ s n hs] at b3)
      try simp only [Act.put]
      go_upto_region 7 with (first | refine load_part rfl 27 _ rfl (o := 20) b3 rfl (Idn.mk 0 s n).vals (Co.p_conf _) Try.underlying27 rfl sizeIdn ?_ | refine load_part rfl 28 _ rfl (o := 23) b3 rfl (row8 (put8 noMb s n)) (Co.p_mem _) Try.underlying28 rfl sizeMb ?_ | (refine store_part rfl 27 _ _ rfl (off := 40) (cells := (Idn.mk 0 s n).arr) b3 rfl rfl sizeIdn (show 40 + 3 ≤ 189 by decide) (Idn.arr_one _) ?_; intro w4 b4 k4; rw [Co.s_pr] at b4) | (refine store_part rfl 28 _ _ rfl (off := 43) (cells := (mbc (put8 noMb s n))) b4 rfl rfl sizeMb (show 43 + 8 ≤ 189 by decide) (mbc_one _) ?_; intro w5 b5 k5; rw [Co.s_want] at b5))
      try simp only [Act.put]
      have q5 : Blk Y (coc R) 35 w5 := by rw [eR]; exact b5
      clear b5 b4 b3 b2 q0 eR
      replace a0 := (((a0.kp1 k2 (by omega)).kp1 k3 (by omega)).kp1 k4 (by omega)).kp1 k5 (by omega)
      replace hB := hB.trans (k2.below1 (by omega) hB.size)
      replace hB := hB.trans (k3.below1 (by omega) hB.size)
      replace hB := hB.trans (k4.below1 (by omega) hB.size)
      replace hB := hB.trans (k5.below1 (by omega) hB.size)
      go_wp2_with (first | refine load_blk rfl 35 _ rfl q5 rfl Try.underlying35 rfl sizeCo ?_ | (refine store_part rfl 35 _ _ rfl (off := 0) (cells := coc R) a0 rfl rfl sizeCo (Nat.le_refl _) (coc_one _) ?_; intro w9 b9 k9; rw [Co.all] at b9; have hB9 : Below w.heap.size w w9 := hB.trans (k9.below1 (by omega) hB.size)))
      exact bodyPost_ret (w := w9) (v := .tuple #[.agg (coc R), .bool true]) (ret_two rfl rfl b9 Try.underlying35 rfl sizeCo rfl) rfl ⟨rfl, hB9⟩
  · obtain ⟨rfl, rfl⟩ := hno (by omega)
    have h2' : 8 ≤ sI := by omega
    go_wp2_with (first | (refine build_as rfl 35 #[] rfl (C := coc Co.zero) ?_ ?_; kernel_rfl) | (refine store_part rfl 35 _ _ rfl (off := 0) (cells := coc Co.zero) a0 rfl rfl sizeCo (Nat.le_refl _) (coc_one _) ?_; intro w9 b9 k9; rw [Co.all] at b9; have hB9 : Below w.heap.size w w9 := hB.trans (k9.below1 (by omega) hB.size)))
    exact bodyPost_ret (w := w9) (v := .tuple #[.agg (coc Co.zero), .bool false]) (ret_two rfl rfl b9 Try.underlying35 rfl sizeCo rfl) rfl ⟨rfl, hB9⟩

end Go.Proofs.Ythgmecgknhphmaa
