/-
  What may be delivered: what the document says.
  Counts and a place's round are such as a uint32 holds.
-/
import Derived.Test.YtmnpbjaofemelaaRdR
namespace Go.Proofs.Ytmnpbjaofemelaa
set_option maxRecDepth 10000
open Go.RowKit Go.Sort

set_option maxHeartbeats 8000000 in
theorem rsvc_ok (c m : Nat → Nat) (hc : ∀ i, c i < 4294967296) (p : Pl) (s : Int) (hr : p.r < 4294967296) (w : World) : Calls Try.prog 35 #[.agg (mbc c), .agg (mbc m), .agg p.arr, .int .i64 s] w fun e w' => e = .returned (.bool (svcB c m p s)) ∧ Below w.heap.size w w' := by
  obtain ⟨a0, a1, a2, hB⟩ := three_blk (T0 := 28) (T1 := 29) (T2 := 42) (C0 := mbc c) (C1 := mbc m) (C2 := p.arr) (w := w) rfl
  obtain ⟨R, hR⟩ : ∃ R, Hid (svcB c m p s = R) := ⟨_, rfl⟩
  rw [hR.out]
  have HR : Hid (p.r < 4294967296) := hr
  have HC : Hid (∀ i, c i < 4294967296) := hc
  clear hr hc
  go_enter Try.func35, Try.ntmps35
  go_upto_region 1 with fail
  generalize ((w.alloc (Obj.cells (mbc c) 28)).alloc (Obj.cells (mbc m) 29)).alloc (Obj.cells p.arr 42) = W at a0 a1 a2 hB ⊢
  have qr : ∀ d' os, (grow (redrawn W d') os).cell? ⟨w.heap.size + 1 + 1, 0, none⟩ = some (.int .u32 (p.r : Int)) := cell_regrown (a2.cell 0 _ rfl)
  have qf : ∀ d' os, (grow (redrawn W d') os).cell? ⟨w.heap.size + 1 + 1, 1, none⟩ = some (.int .i64 p.f) := cell_regrown (a2.cell 1 _ rfl)
  by_cases h0 : p.f < 0
  · have g0 : decide (p.f < 0) = true := by simpa using h0
    obtain rfl : R = false := by rw [← hR.out, svcB, inB, isM]; simp; omega
    clear h0 hR HR HC
    refine wp_region_quiet_below (by kernel_rfl) (by kernel_rfl) ?_
    repeat (go_big_quiet_step (fail))
    refine wpQuiet_nil ?_
    intro _ hw'
    obtain ⟨⟨dq, osq⟩, hw''⟩ := hw'
    have hb := below_regrown W dq osq
    subst hw''
    generalize grow (redrawn W dq) osq = w5 at hb ⊢
    replace a0 := a0.below hb
    replace a1 := a1.below hb
    replace a2 := a2.below hb
    replace hB := hB.trans (hb.mono hB.size)
    clear hb
    clear a0 a1 a2
    go_wp2_with fail
    go_ret
    exact ⟨rfl, hB⟩
  · have g0 : decide (p.f < 0) = false := by simpa using h0
    by_cases h1 : 7 < p.f
    · have g1 : decide (7 < p.f) = true := by simpa using h1
      obtain rfl : R = false := by rw [← hR.out, svcB, inB, isM]; simp; omega
      clear h0 h1 hR HR HC
      refine wp_region_quiet_below (by kernel_rfl) (by kernel_rfl) ?_
      repeat (go_big_quiet_step (fail))
      refine wpQuiet_nil ?_
      intro _ hw'
      obtain ⟨⟨dq, osq⟩, hw''⟩ := hw'
      have hb := below_regrown W dq osq
      subst hw''
      generalize grow (redrawn W dq) osq = w5 at hb ⊢
      replace a0 := a0.below hb
      replace a1 := a1.below hb
      replace a2 := a2.below hb
      replace hB := hB.trans (hb.mono hB.size)
      clear hb
      clear a0 a1 a2
      go_wp2_with fail
      go_ret
      exact ⟨rfl, hB⟩
    · have g1 : decide (7 < p.f) = false := by simpa using h1
      obtain ⟨d, hf⟩ : ∃ d : Nat, p.f = (d : Int) := ⟨p.f.toNat, by omega⟩
      have hd8 : d < 8 := by omega
      have d0 : (d : Int) < 8 := by omega
      have d1 : (0 : Int) ≤ (d : Int) := by omega
      rw [hf] at qf g0 g1
      have g1n : decide (7 < d) = false := by simp; omega
      have qm : ∀ d' os, (grow (redrawn W d') os).cell? ⟨w.heap.size + 1, d, none⟩ = some (.int .u32 (m d : Int)) := cell_regrown (a1.cell d _ (mbc_get m d hd8))
      have qc : ∀ d' os, (grow (redrawn W d') os).cell? ⟨w.heap.size, d, none⟩ = some (.int .u32 (c d : Int)) := cell_regrown (a0.cell d _ (mbc_get c d hd8))
      clear h0 h1
      by_cases h2 : m d = 0
      · have g2 : ((m d : Int) == 0) = true := by simp [h2]
        obtain rfl : R = false := by rw [← hR.out, svcB, inB, isM, hf, Int.toNat_natCast, h2]; simp
        clear h2 hR HR HC hf
        refine wp_region_quiet_below (by kernel_rfl) (by kernel_rfl) ?_
        repeat (go_big_quiet_step (fail))
        refine wpQuiet_nil ?_
        intro _ hw'
        obtain ⟨⟨dq, osq⟩, hw''⟩ := hw'
        have hb := below_regrown W dq osq
        subst hw''
        generalize grow (redrawn W dq) osq = w5 at hb ⊢
        replace a0 := a0.below hb
        replace a1 := a1.below hb
        replace a2 := a2.below hb
        replace hB := hB.trans (hb.mono hB.size)
        clear hb
        clear a0 a1 a2
        go_wp2_with fail
        go_ret
        exact ⟨rfl, hB⟩
      · have g2 : ((m d : Int) == 0) = false := by rw [beq_eq_false_iff_ne]; omega
        have hd : d ∈ lst m := (mem_lst m d).2 ⟨hd8, h2⟩
        clear h2
        by_cases h4 : p.r = 0
        · have g4 : ((p.r : Int) == 0) = true := by simp [h4]
          obtain rfl : R = false := by rw [← hR.out, svcB, inB, h4]; simp
          clear h4 hR HR HC hf hd
          refine wp_region_quiet_below (by kernel_rfl) (by kernel_rfl) ?_
          repeat (go_big_quiet_step (fail))
          refine wpQuiet_nil ?_
          intro _ hw'
          obtain ⟨⟨dq, osq⟩, hw''⟩ := hw'
          have hb := below_regrown W dq osq
          subst hw''
          generalize grow (redrawn W dq) osq = w5 at hb ⊢
          replace a0 := a0.below hb
          replace a1 := a1.below hb
          replace a2 := a2.below hb
          replace hB := hB.trans (hb.mono hB.size)
          clear hb
          clear a0 a1 a2
          go_wp2_with fail
          go_ret
          exact ⟨rfl, hB⟩
        · have g4 : ((p.r : Int) == 0) = false := by rw [beq_eq_false_iff_ne]; omega
          by_cases h5 : c d < p.r
          · have g5 : decide (c d < p.r) = true := by simpa using h5
            obtain rfl : R = false := by rw [← hR.out, svcB, inB, hf, Int.toNat_natCast]; simp; omega
            clear h4 h5 hR HR HC hf hd
            refine wp_region_quiet_below (by kernel_rfl) (by kernel_rfl) ?_
            repeat (go_big_quiet_step (fail))
            refine wpQuiet_nil ?_
            intro _ hw'
            obtain ⟨⟨dq, osq⟩, hw''⟩ := hw'
            have hb := below_regrown W dq osq
            subst hw''
            generalize grow (redrawn W dq) osq = w5 at hb ⊢
            replace a0 := a0.below hb
            replace a1 := a1.below hb
            replace a2 := a2.below hb
            replace hB := hB.trans (hb.mono hB.size)
            clear hb
            clear a0 a1 a2
            go_wp2_with fail
            go_ret
            exact ⟨rfl, hB⟩
          · have g5 : decide (c d < p.r) = false := by simpa using h5
            by_cases h7 : s < 0
            · have g6 : decide (s < 0) = true := by simpa using h7
              obtain rfl : R = false := by rw [← hR.out, svcB, kindB, if_neg (by omega), if_neg (by omega), if_neg (by omega), if_neg (by omega)]; simp
              clear h4 h5 h7 hR HR HC hf hd
              refine wp_region_quiet_below (by kernel_rfl) (by kernel_rfl) ?_
              repeat (go_big_quiet_step (fail))
              refine wpQuiet_nil ?_
              intro _ hw'
              obtain ⟨⟨dq, osq⟩, hw''⟩ := hw'
              have hb := below_regrown W dq osq
              subst hw''
              generalize grow (redrawn W dq) osq = w5 at hb ⊢
              replace a0 := a0.below hb
              replace a1 := a1.below hb
              replace a2 := a2.below hb
              replace hB := hB.trans (hb.mono hB.size)
              clear hb
              clear a0 a1 a2
              go_wp2_with fail
              go_ret
              exact ⟨rfl, hB⟩
            · have g6 : decide (s < 0) = false := by simpa using h7
              by_cases h8 : 3 < s
              · have g7 : decide (3 < s) = true := by simpa using h8
                obtain rfl : R = false := by rw [← hR.out, svcB, kindB, if_neg (by omega), if_neg (by omega), if_neg (by omega), if_neg (by omega)]; simp
                clear h4 h5 h7 h8 hR HR HC hf hd
                refine wp_region_quiet_below (by kernel_rfl) (by kernel_rfl) ?_
                repeat (go_big_quiet_step (fail))
                refine wpQuiet_nil ?_
                intro _ hw'
                obtain ⟨⟨dq, osq⟩, hw''⟩ := hw'
                have hb := below_regrown W dq osq
                subst hw''
                generalize grow (redrawn W dq) osq = w5 at hb ⊢
                replace a0 := a0.below hb
                replace a1 := a1.below hb
                replace a2 := a2.below hb
                replace hB := hB.trans (hb.mono hB.size)
                clear hb
                clear a0 a1 a2
                go_wp2_with fail
                go_ret
                exact ⟨rfl, hB⟩
              · have g3 : decide (3 < s) = false := by simpa using h8
                have sx : s = 0 ∨ s = 1 ∨ s = 2 ∨ s = 3 := by omega
                have hf' : Hid (p.f = (d : Int)) := hf
                clear hf
                refine wp_region_quiet_below (by kernel_rfl) (by kernel_rfl) ?_
                repeat (go_big_quiet_step (fail))
                refine wpQuiet_nil ?_
                intro _ hw'
                obtain ⟨⟨dq, osq⟩, hw''⟩ := hw'
                have hb := below_regrown W dq osq
                subst hw''
                generalize grow (redrawn W dq) osq = w5 at hb ⊢
                replace a0 := a0.below hb
                replace a1 := a1.below hb
                replace a2 := a2.below hb
                replace hB := hB.trans (hb.mono hB.size)
                clear hb
                have hf := hf'.out
                clear hf' qr qf qm qc g1n
                have hin : inB c m p = true := by rw [inB, hf, (isM_nat m d).2 hd, Int.toNat_natCast]; simp; omega
                have hK : kindB c m p s = R := by rw [← hR.out, svcB, hin, Bool.true_and]
                have hu : IntKind.u64.wrap (p.r : Int) = (p.r : Int) := by have := HR.out; rw [IntKind.wrap_u64]; omega
                have hu1 : IntKind.u64.wrap ((p.r : Int) - 1) = ((p.r - 1 : Nat) : Int) := by have := HR.out; rw [IntKind.wrap_u64]; omega
                have hu2 : IntKind.u64.wrap ((p.r : Int) + 1) = ((p.r + 1 : Nat) : Int) := by have := HR.out; rw [IntKind.wrap_u64]; omega
                have pA := rfull_ok c m HC.out (p.r - 1)
                have pB := rfull_ok c m HC.out (p.r + 1)
                rw [fullB_iff c m d _ hd] at pA pB
                have HF : Hid (p.f = (d : Int)) := hf
                unfold kindB at hK
                generalize leastC c m = q at *
                obtain ⟨A, hA⟩ : ∃ A, decide (p.r - 1 ≤ q) = A := ⟨_, rfl⟩
                rw [hA] at pA hK
                generalize p.r - 1 = r1 at *
                obtain ⟨r2, hr2⟩ : ∃ r2, p.r + 1 = r2 := ⟨_, rfl⟩
                have h3 : decide (p.r < q) = decide (r2 ≤ q) := by rw [← hr2, decide_eq_decide]; omega
                rw [hr2] at pB hu2
                rw [h3] at hK
                have q1 := a2.cell 0 (.int .u32 (p.r : Int)) rfl
                have q2 : w5.cell? ⟨w.heap.size + 1 + 1, 1, none⟩ = some (.int .i64 (d : Int)) := by rw [← hf]; exact a2.cell 1 _ rfl
                clear hin hR HR HC hA hf hr2 h3 h5 h4 h8 h7 g0 g1 g2 g3 g4 g5 g6 hd
                rcases sx with rfl | rfl | rfl | rfl
                · rw [if_pos rfl] at hK
                  subst hK
                  clear pA pB
                  go_wp2_with fail
                  go_ret
                  exact ⟨rfl, hB⟩
                · rw [if_neg (by decide), if_pos rfl] at hK
                  subst hK
                  clear pB hu2
                  go_wp2_with (first | refine load_blk rfl 28 _ rfl a0 rfl Try.underlying28 rfl sizeCt ?_ | refine load_blk rfl 29 _ rfl a1 rfl Try.underlying29 rfl sizeMb ?_)
                  refine (pA _).mono ?_
                  rintro r w7 ⟨rfl, hb⟩
                  replace a0 := a0.below hb
                  replace a1 := a1.below hb
                  replace a2 := a2.below hb
                  replace hB := hB.trans (hb.mono hB.size)
                  clear hb pA
                  clear hu hu1 q1 q2
                  have q2 : w7.cell? ⟨w.heap.size + 1 + 1, 1, none⟩ = some (.int .i64 (d : Int)) := by rw [← HF.out]; exact a2.cell 1 _ rfl
                  cases A with
                  | false =>
                    clear a0 a1 a2
                    go_wp2_with fail
                    go_ret
                    exact ⟨rfl, hB⟩
                  | true =>
                    go_wp2_with fail
                    go_loopw [10] (fun iv wr => iv = .int .i64 0 ∧ wr = w7) (fun _ _ => 0)
                    case atStart => exact ⟨rfl, rfl⟩
                    case round =>
                      obtain ⟨rfl, rfl⟩ := hrel
                      clear a0 a1 a2
                      by_cases hz : (0 : Int) < (d : Int)
                      · have hz' : decide ((0 : Int) < (d : Int)) = true := by simpa using hz
                        have hzn : decide (0 < d) = true := by simp; omega
                        go_wp2_with fail
                        go_ret
                        exact ⟨rfl, hB⟩
                      · have hz' : decide ((0 : Int) < (d : Int)) = false := by simpa using hz
                        have hzn : decide (0 < d) = false := by simp; omega
                        go_wp2_with fail
                        go_ret
                        exact ⟨rfl, hB⟩
                · rw [if_neg (by decide), if_neg (by decide), if_pos rfl] at hK
                  clear pB hu2
                  go_wp2_with (first | refine load_blk rfl 28 _ rfl a0 rfl Try.underlying28 rfl sizeCt ?_ | refine load_blk rfl 29 _ rfl a1 rfl Try.underlying29 rfl sizeMb ?_)
                  refine (pA _).mono ?_
                  rintro r w7 ⟨rfl, hb⟩
                  replace a0 := a0.below hb
                  replace a1 := a1.below hb
                  replace a2 := a2.below hb
                  replace hB := hB.trans (hb.mono hB.size)
                  clear hb pA
                  clear hu hu1 q1 q2
                  have q2 : w7.cell? ⟨w.heap.size + 1 + 1, 1, none⟩ = some (.int .i64 (d : Int)) := by rw [← HF.out]; exact a2.cell 1 _ rfl
                  have q1 := True.intro
                  cases A with
                  | false =>
                    obtain rfl : R = false := by rw [← hK]; rfl
                    clear a0 a1 a2 hK
                    go_wp2_with fail
                    go_ret
                    exact ⟨rfl, hB⟩
                  | true =>
                    rw [Bool.true_and] at hK
                    go_wp2_with fail
                    go_loopw [10] (fun iv wr => ∃ j : Nat, j ≤ d ∧ iv = .int .i64 j ∧ Hid (∀ i, i < j → m i ≠ 0 → p.r ≤ c i) ∧ Blk w.heap.size (mbc c) 28 wr ∧ Blk (w.heap.size + 1) (mbc m) 29 wr ∧ Blk (w.heap.size + 1 + 1) p.arr 42 wr ∧ Below w.heap.size w wr) (fun iv _ => d - (intOf iv).toNat)
                    case atStart => exact ⟨0, by omega, rfl, fun i h => by omega, a0, a1, a2, hB⟩
                    case round =>
                      clear a0 a1 a2 hB q1 q2
                      obtain ⟨j, hj, rfl, h0, a0, a1, a2, hB⟩ := hrel
                      have q2 : wr.cell? ⟨w.heap.size + 1 + 1, 1, none⟩ = some (.int .i64 (d : Int)) := by rw [← HF.out]; exact a2.cell 1 _ rfl
                      by_cases hjd : j < d
                      · have j0 : (j : Int) < (d : Int) := by omega
                        have j1 : (0 : Int) ≤ (j : Int) := by omega
                        have j2 : (j : Int) < 8 := by omega
                        have hj8 : j < 8 := by omega
                        have r0 : ∀ d' os, (grow (redrawn wr d') os).cell? ⟨w.heap.size, j, none⟩ = some (.int .u32 (c j : Int)) := cell_regrown (a0.cell j _ (mbc_get c j hj8))
                        have r1 : ∀ d' os, (grow (redrawn wr d') os).cell? ⟨w.heap.size + 1, j, none⟩ = some (.int .u32 (m j : Int)) := cell_regrown (a1.cell j _ (mbc_get m j hj8))
                        have r2 : ∀ d' os, (grow (redrawn wr d') os).cell? ⟨w.heap.size + 1 + 1, 0, none⟩ = some (.int .u32 (p.r : Int)) := cell_regrown (a2.cell 0 _ rfl)
                        by_cases h1 : m j = 0
                        · have g1 : ((m j : Int) != 0) = false := by simp [h1]
                          have HS : Hid (∀ i, i < j + 1 → m i ≠ 0 → p.r ≤ c i) := fun i hi hm => by
                            by_cases e : i = j
                            · subst e; exact absurd h1 hm
                            · exact h0.out i (by omega) hm
                          clear h1 h0
                          go_wp2_with fail
                          refine wp_region_quiet_below (by kernel_rfl) (by kernel_rfl) ?_
                          repeat (go_big_quiet_step (fail))
                          refine wpQuiet_nil ?_
                          intro _ hw'
                          obtain ⟨⟨dq, osq⟩, hw''⟩ := hw'
                          have hb := below_regrown wr dq osq
                          subst hw''
                          generalize grow (redrawn wr dq) osq = w6 at hb ⊢
                          replace a0 := a0.below hb
                          replace a1 := a1.below hb
                          replace a2 := a2.below hb
                          replace hB := hB.trans (hb.mono hB.size)
                          clear hb
                          clear r0 r1 r2 q2 g1
                          go_wp2_with fail
                          exact ⟨⟨j + 1, by omega, by go_num, HS, a0, a1, a2, hB⟩, by simp [intOf]; omega⟩
                        · have g1 : ((m j : Int) != 0) = true := by rw [bne_iff_ne]; omega
                          by_cases h2 : c j < p.r
                          · have g2 : decide (c j < p.r) = true := by simpa using h2
                            obtain rfl : R = false := by
                              rw [← hK, lowB, List.all_eq_false]
                              exact ⟨j, (mem_lst m j).2 ⟨hj8, h1⟩, by rw [HF.out]; simp; omega⟩
                            clear h1 h2 h0 hK
                            go_wp2_with fail
                            refine wp_region_quiet_below (by kernel_rfl) (by kernel_rfl) ?_
                            repeat (go_big_quiet_step (fail))
                            refine wpQuiet_nil ?_
                            intro _ hw'
                            obtain ⟨⟨dq, osq⟩, hw''⟩ := hw'
                            have hb := below_regrown wr dq osq
                            subst hw''
                            generalize grow (redrawn wr dq) osq = w6 at hb ⊢
                            replace a0 := a0.below hb
                            replace a1 := a1.below hb
                            replace a2 := a2.below hb
                            replace hB := hB.trans (hb.mono hB.size)
                            clear hb
                            clear r0 r1 r2 q2 g1 g2 a0 a1 a2
                            go_wp2_with fail
                            go_ret
                            exact ⟨rfl, hB⟩
                          · have g2 : decide (c j < p.r) = false := by simpa using h2
                            have HS : Hid (∀ i, i < j + 1 → m i ≠ 0 → p.r ≤ c i) := fun i hi hm => by
                              by_cases e : i = j
                              · subst e; omega
                              · exact h0.out i (by omega) hm
                            clear h1 h2 h0
                            go_wp2_with fail
                            refine wp_region_quiet_below (by kernel_rfl) (by kernel_rfl) ?_
                            repeat (go_big_quiet_step (fail))
                            refine wpQuiet_nil ?_
                            intro _ hw'
                            obtain ⟨⟨dq, osq⟩, hw''⟩ := hw'
                            have hb := below_regrown wr dq osq
                            subst hw''
                            generalize grow (redrawn wr dq) osq = w6 at hb ⊢
                            replace a0 := a0.below hb
                            replace a1 := a1.below hb
                            replace a2 := a2.below hb
                            replace hB := hB.trans (hb.mono hB.size)
                            clear hb
                            clear r0 r1 r2 q2 g1 g2
                            go_wp2_with fail
                            exact ⟨⟨j + 1, by omega, by go_num, HS, a0, a1, a2, hB⟩, by simp [intOf]; omega⟩
                      · obtain rfl : j = d := by omega
                        obtain rfl : R = true := by
                          rw [← hK, lowB, List.all_eq_true]
                          intro i hi
                          obtain ⟨_, hm⟩ := (mem_lst m i).1 hi
                          have := h0.out i
                          rw [HF.out]
                          simp
                          by_cases e : (i : Int) < (j : Int)
                          · right; exact this (by omega) hm
                          · left; omega
                        clear h0 hK a0 a1 a2
                        go_wp2_with fail
                        go_ret
                        exact ⟨rfl, hB⟩
                · rw [if_neg (by decide), if_neg (by decide), if_neg (by decide), if_pos rfl] at hK
                  rw [hK] at pB
                  clear pA hu1 hK
                  go_wp2_with (first | refine load_blk rfl 28 _ rfl a0 rfl Try.underlying28 rfl sizeCt ?_ | refine load_blk rfl 29 _ rfl a1 rfl Try.underlying29 rfl sizeMb ?_)
                  refine (pB _).mono ?_
                  rintro r w7 ⟨rfl, hb⟩
                  replace a0 := a0.below hb
                  replace a1 := a1.below hb
                  replace a2 := a2.below hb
                  replace hB := hB.trans (hb.mono hB.size)
                  clear hb pB
                  clear hu hu2 q1 q2 a0 a1 a2
                  go_wp2_with fail
                  go_ret
                  exact ⟨rfl, hB⟩

end Go.Proofs.Ytmnpbjaofemelaa
