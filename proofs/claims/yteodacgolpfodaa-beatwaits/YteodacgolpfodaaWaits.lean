/-
  Who is heard is reached for so many ticks as one waits, and not longer, if it is not heard again, the others as ahead of it: the law BeatWaits returns true for every input.
  No condition beyond the form's own.
-/
import Derived.Test.YteodacgolpfodaaRows
import Derived.Test.YteodacgolpfodaaBtW
import Derived.WalkKit
import Derived.ProofKit
import Derived.OpenShut
import Derived.ShutString
import Derived.SizedLaws
import Derived.ChangeOld
import Derived.Below
namespace Go.Proofs.Yteodacgolpfodaa.beatWaits
open Go.Sort Go.ChangeShapes Go.WideShapes Go.ChangeAt Go.RowKit
open Go.ChangeMaps (open_string shut_string)
set_option linter.unusedVariables false
set_option maxRecDepth 10000

theorem own : ownKnob Try.prog.godebug = none := by kernel_rfl
theorem length_bytes (s : ByteArray) : s.data.toList.length = s.size := by rw [Array.length_toList]; rfl

set_option maxHeartbeats 8000000 in
theorem walk_nat (b : Bt) (ko : b.ok) (i : Int) (n : Nat) (wt : Nat) (w : World) : Calls Try.prog 4 #[.agg b.arr, .agg (hc i n), .int .u32 (wt : Int)] w fun e w' => e = .returned (.bool true) ∧ Below w.heap.size w w' := by
  have pA := hear_ok b i n
  clear ko
  obtain ⟨D, hD⟩ : ∃ D, hearB b i n = D := ⟨_, rfl⟩
  obtain ⟨O, hO⟩ : ∃ O, hearsB b i n = O := ⟨_, rfl⟩
  have HD : Hid (hearB b i n = D) := hD
  have HO : Hid (hearsB b i n = O) := hO
  rw [hD, hO] at pA
  clear hD hO
  obtain ⟨a0, a1, hB⟩ := two_blk (T0 := 25) (T1 := 27) (C0 := b.arr) (C1 := hc i n) (w := w) rfl
  go_enter Try.func4, Try.ntmps4
  go_upto_region 1 with fail
  generalize (w.alloc (Obj.cells b.arr 25)).alloc (Obj.cells (hc i n) 27) = W at a0 a1 hB ⊢
  have hWs : w.heap.size + 1 < W.heap.size := a1.lt
  have q0 := a1.cell 0 (.int .i64 i) rfl
  have q1 := a1.cell 1 (.int .u32 (n : Int)) rfl
  go_wp2_with (refine load_blk rfl 25 _ rfl a0 rfl Try.underlying25 rfl b.size ?_)
  clear q0 q1
  refine (pA _).mono ?_
  rintro r w1 ⟨rfl, hb⟩
  have hw1 := Nat.lt_of_lt_of_le hWs hb.size
  replace a0 := a0.below hb
  replace a1 := a1.below hb
  replace hB := hB.trans (hb.mono hB.size)
  clear hb
  replace a0 := a0.alloc (.cells D.arr 25)
  replace a1 := a1.alloc (.cells D.arr 25)
  have c1 := blk_new w1 D.arr 25
  replace hB : Below w.heap.size w (w1.alloc (.cells D.arr 25)) := hB.alloc hB.size _
  go_wp2_with (first | refine alloc_zero zeroBt rfl rfl ?_ | refine store_new rfl 25 _ _ rfl (cells := D.arr) rfl rfl D.size rfl D.arr_one ?_)
  refine (fixed_ok _).mono ?_
  rintro r w2 ⟨rfl, hb⟩
  replace a0 := a0.below hb
  replace a1 := a1.below hb
  replace c1 := c1.below hb
  replace hB := hB.trans (hb.mono hB.size)
  clear hb
  have HP1 : Hid (w.heap.size + 1 ≠ w1.heap.size) := by show w.heap.size + 1 ≠ w1.heap.size; omega
  have HPL : Hid (w.heap.size ≤ w1.heap.size) := by show w.heap.size ≤ w1.heap.size; omega
  generalize w1.heap.size = p1 at c1 HP1 HPL ⊢
  clear hWs hw1
  have q0 := a0.cell 0 _ b.get_now
  cases O with
  | false =>
    clear pA HD HO
    go_wp2_with fail
    refine (fixed_ok _).mono ?_
    rintro r w3 ⟨rfl, hb⟩
    replace hB := hB.trans (hb.mono hB.size)
    clear hb
    go_wp2_with fail
    go_ret
    exact ⟨rfl, hB⟩
  | true =>
    by_cases h8 : wt ≤ 200
    · by_cases h9 : b.now ≤ 4000000000
      · obtain ⟨h0, h1, h2, h3, h4⟩ := hearsB_iff.1 HO.out
        obtain ⟨k, rfl⟩ : ∃ k : Nat, i = (k : Int) := ⟨i.toNat, by omega⟩
        have hk : k < 8 := by omega
        have HD0 : Hid (D = cN b k n 0) := by rw [← HD.out]; exact cN_zero HO.out
        obtain ⟨X0, hX0⟩ : ∃ X, rchB b (-1) 0 wt = X := ⟨_, rfl⟩
        obtain ⟨X1, hX1⟩ : ∃ X, rchB D (-1) 0 wt = X := ⟨_, rfl⟩
        have HX : Hid (∀ j, j ≠ k → X0 j = X1 j) := fun j hj => by rw [← hX0, ← hX1, HD0.out, cN_others b k n wt j hj]
        have pB : ∀ u : World, Calls Try.prog 12 #[.agg b.arr, .int .i64 (-1), .int .u32 0, .int .u32 (wt : Int)] u fun e w' => e = .returned (.agg (mbc X0)) ∧ Below u.heap.size u w' := fun u => by rw [← hX0]; exact reach_ok b (-1) 0 wt (by omega) u
        have pC : ∀ u : World, Calls Try.prog 12 #[.agg D.arr, .int .i64 (-1), .int .u32 0, .int .u32 (wt : Int)] u fun e w' => e = .returned (.agg (mbc X1)) ∧ Below u.heap.size u w' := fun u => by rw [← hX1]; exact reach_ok D (-1) 0 wt (by rw [HD0.out]; simp only [cN]; omega) u
        have HNz : Hid (b.now ≠ 0) := h3
        have HNb : Hid (b.now ≤ 4000000000) := h9
        have g1 : decide ((4000000000 : Int) < (b.now : Int)) = false := by simp; omega
        have g2 : decide ((200 : Int) < (wt : Int)) = false := by simp; omega
        have g3 : decide (200 < wt) = false := by simp; omega
        have g4 : decide (4000000000 < b.now) = false := by simp; omega
        clear hX0 hX1 h0 h1 h2 h3 h4 h9 HO HD pA
        go_wp2_with (refine load_blk rfl 25 _ rfl a0 rfl Try.underlying25 rfl b.size ?_)
        refine (pB _).mono ?_
        rintro r w3 ⟨rfl, hb⟩
        replace a0 := (a0.below hb).alloc (.cells (mbc X0) 32)
        replace a1 := (a1.below hb).alloc (.cells (mbc X0) 32)
        replace c1 := (c1.below hb).alloc (.cells (mbc X0) 32)
        have d1 := blk_new w3 (mbc X0) 32
        replace hB := hB.trans (hb.mono hB.size)
        replace hB : Below w.heap.size w (w3.alloc (.cells (mbc X0) 32)) := hB.alloc hB.size _
        clear hb pB g1 g2 g3 g4 q0
        go_wp2_with (first | refine alloc_zero zeroMb rfl rfl ?_ | refine store_new rfl 32 _ _ rfl (cells := mbc X0) rfl rfl sizeMb rfl (mbc_one X0) ?_ | refine load_blk rfl 25 _ rfl c1 rfl Try.underlying25 rfl D.size ?_)
        refine (pC _).mono ?_
        rintro r w4 ⟨rfl, hb⟩
        replace a0 := (a0.below hb).alloc (.cells (mbc X1) 32)
        replace a1 := (a1.below hb).alloc (.cells (mbc X1) 32)
        replace c1 := (c1.below hb).alloc (.cells (mbc X1) 32)
        replace d1 := (d1.below hb).alloc (.cells (mbc X1) 32)
        have d2 := blk_new w4 (mbc X1) 32
        replace hB := hB.trans (hb.mono hB.size)
        replace hB : Below w.heap.size w (w4.alloc (.cells (mbc X1) 32)) := hB.alloc hB.size _
        generalize w3.heap.size = p3 at d1 ⊢
        clear hb pC
        rw [HD0.out] at c1
        go_wp2_with (first | refine alloc_zero zeroMb rfl rfl ?_ | refine store_new rfl 32 _ _ rfl (cells := mbc X1) rfl rfl sizeMb rfl (mbc_one X1) ?_)
        go_loopw [11] (fun iv wr => ∃ j : Nat, j ≤ 8 ∧ iv = .int .i64 j ∧ Blk (w.heap.size + 1) (hc k n) 27 wr ∧ Blk p1 (cN b k n 0).arr 25 wr ∧ Blk p3 (mbc X0) 32 wr ∧ Blk w4.heap.size (mbc X1) 32 wr ∧ Below w.heap.size w wr) (fun iv _ => 8 - (intOf iv).toNat)
        case atStart => exact ⟨0, by omega, rfl, a1, c1, d1, d2, hB⟩
        case round =>
          clear a0 a1 c1 d1 d2 hB
          obtain ⟨j, hj, rfl, a1, c1, d1, d2, hB⟩ := hrel
          by_cases hj8 : j < 8
          · have j0 : (j : Int) < 8 := by omega
            have j1 : (0 : Int) ≤ (j : Int) := by omega
            have q0 : ∀ d os, (grow (redrawn wr d) os).cell? ⟨w.heap.size + 1, 0, none⟩ = some (.int .i64 (k : Int)) := cell_regrown (a1.cell 0 _ rfl)
            by_cases hjk : j = k
            · have g0 : ((j : Int) != (k : Int)) = false := by simp [hjk]
              clear hjk
              go_wp2_with fail
              refine wp_region_quiet_below (by kernel_rfl) (by kernel_rfl) ?_
              repeat (go_big_quiet_step (fail))
              refine wpQuiet_nil ?_
              intro _ hw'
              obtain ⟨⟨dq, osq⟩, hw''⟩ := hw'
              have hb := below_regrown wr dq osq
              subst hw''
              generalize grow (redrawn wr dq) osq = w5 at hb ⊢
              replace a1 := a1.below hb
              replace c1 := c1.below hb
              replace d1 := d1.below hb
              replace d2 := d2.below hb
              replace hB := hB.trans (hb.mono hB.size)
              clear hb q0 g0
              go_wp2_with fail
              exact ⟨⟨j + 1, by omega, by go_num, a1, c1, d1, d2, hB⟩, by simp [intOf]; omega⟩
            · have g0 : ((j : Int) != (k : Int)) = true := by rw [bne_iff_ne]; omega
              have q1 : ∀ d os, (grow (redrawn wr d) os).cell? ⟨p3, j, none⟩ = some (.int .u32 (X0 j : Int)) := cell_regrown (d1.cell j _ (mbc_get X0 j hj8))
              have q2 : ∀ d os, (grow (redrawn wr d) os).cell? ⟨w4.heap.size, j, none⟩ = some (.int .u32 (X0 j : Int)) := by rw [HX.out j hjk]; exact cell_regrown (d2.cell j _ (mbc_get X1 j hj8))
              clear hjk
              go_wp2_with fail
              refine wp_region_quiet_below (by kernel_rfl) (by kernel_rfl) ?_
              repeat (go_big_quiet_step (fail))
              refine wpQuiet_nil ?_
              intro _ hw'
              obtain ⟨⟨dq, osq⟩, hw''⟩ := hw'
              have hb := below_regrown wr dq osq
              subst hw''
              generalize grow (redrawn wr dq) osq = w5 at hb ⊢
              replace a1 := a1.below hb
              replace c1 := c1.below hb
              replace d1 := d1.below hb
              replace d2 := d2.below hb
              replace hB := hB.trans (hb.mono hB.size)
              clear hb q0 q1 q2 g0
              go_wp2_with fail
              exact ⟨⟨j + 1, by omega, by go_num, a1, c1, d1, d2, hB⟩, by simp [intOf]; omega⟩
          · obtain rfl : j = 8 := by omega
            clear d1 d2
            rw [show ((8 : Nat) : Int) = 8 from rfl]
            go_wp2_with fail
            go_loopw [12] (fun iv ws => ∃ t : Nat, t ≤ wt + 3 ∧ iv = .int .u32 t ∧ Blk (w.heap.size + 1) (hc k n) 27 ws ∧ Blk p1 (cN b k n t).arr 25 ws ∧ Below w.heap.size w ws) (fun iv _ => wt + 3 - (intOf iv).toNat)
            case atStart => exact ⟨0, by omega, rfl, a1, c1, hB⟩
            case round =>
              clear a1 c1 hB
              obtain ⟨t, ht, rfl, a1, c1, hB⟩ := hrel
              by_cases htw : t < wt + 3
              · have t0 : (t : Int) ≤ (wt : Int) + 2 := by omega
                obtain ⟨Y, hY⟩ : ∃ Y, cN b k n t = Y := ⟨_, rfl⟩
                obtain ⟨Z, hZ⟩ : ∃ Z, rchB Y (-1) 0 wt = Z := ⟨_, rfl⟩
                have pR : ∀ u : World, Calls Try.prog 12 #[.agg Y.arr, .int .i64 (-1), .int .u32 0, .int .u32 (wt : Int)] u fun e w' => e = .returned (.agg (mbc Z)) ∧ Below u.heap.size u w' := fun u => by rw [← hZ]; exact reach_ok Y (-1) 0 wt (by rw [← hY]; have := HNb.out; simp only [cN]; omega) u
                obtain ⟨Y', hY'⟩ : ∃ Y', tickB Y = Y' := ⟨_, rfl⟩
                have pT : ∀ u : World, Calls Try.prog 10 #[.agg Y.arr] u fun e w' => e = .returned (.agg Y'.arr) ∧ Below u.heap.size u w' := fun u => by rw [← hY']; exact tick_ok Y u
                have HY' : Hid (Y' = cN b k n (t + 1)) := by rw [← hY', ← hY]; exact cN_tick b k n t (by have := HNb.out; omega)
                have HZ1 : Hid (t ≤ wt → Z k = n) := fun h => by rw [← hZ, ← hY]; exact cN_late b k n t wt HNz.out h
                have HZ2 : Hid (wt < t → Z k = 0) := fun h => by rw [← hZ, ← hY]; exact cN_gone b k n t wt h
                have hpa : putAt Y.arr 0 Y'.arr.toList = Y'.arr := putAt_all _ _ rfl
                rw [hY] at c1
                clear hY hZ hY'
                go_wp2_with (refine load_blk rfl 25 _ rfl c1 rfl Try.underlying25 rfl Y.size ?_)
                refine (pR _).mono ?_
                rintro r w6 ⟨rfl, hb⟩
                replace a1 := (a1.below hb).alloc (.cells (mbc Z) 32)
                replace c1 := (c1.below hb).alloc (.cells (mbc Z) 32)
                have d1 := blk_new w6 (mbc Z) 32
                replace hB := hB.trans (hb.mono hB.size)
                replace hB : Below w.heap.size w (w6.alloc (.cells (mbc Z) 32)) := hB.alloc hB.size _
                clear hb pR
                go_upto_region 15 with (first | refine alloc_zero zeroMb rfl rfl ?_ | refine store_new rfl 32 _ _ rfl (cells := mbc Z) rfl rfl sizeMb rfl (mbc_one Z) ?_)
                simp only [Act.put, List.setIfInBounds_toArray, List.set_cons_zero, List.set_cons_succ]
                generalize w6.heap.size = p6 at d1 ⊢
                generalize w6.alloc (.cells (mbc Z) 32) = V at a1 c1 d1 hB ⊢
                have q0 : ∀ d os, (grow (redrawn V d) os).cell? ⟨w.heap.size + 1, 0, none⟩ = some (.int .i64 (k : Int)) := cell_regrown (a1.cell 0 _ rfl)
                have q1 : ∀ d os, (grow (redrawn V d) os).cell? ⟨w.heap.size + 1, 1, none⟩ = some (.int .u32 (n : Int)) := cell_regrown (a1.cell 1 _ rfl)
                have k0 : (k : Int) < 8 := by omega
                have k1 : (0 : Int) ≤ (k : Int) := by omega
                have q2 : ∀ d os, (grow (redrawn V d) os).cell? ⟨p6, k, none⟩ = some (.int .u32 (Z k : Int)) := cell_regrown (d1.cell k _ (mbc_get Z k hk))
                by_cases htl : t ≤ wt
                · rw [HZ1.out htl] at q2
                  have g0 : decide ((t : Int) ≤ (wt : Int)) = true := by simp; omega
                  have g1 : decide ((wt : Int) < (t : Int)) = false := by simp; omega
                  have g2 : decide (t ≤ wt) = true := by simp; omega
                  have g3 : decide (wt < t) = false := by simp; omega
                  clear htl
                  refine wp_region_quiet_below (by kernel_rfl) (by kernel_rfl) ?_
                  repeat (go_big_quiet_step (fail))
                  refine wpQuiet_nil ?_
                  intro _ hw'
                  obtain ⟨⟨dq, osq⟩, hw''⟩ := hw'
                  have hb := below_regrown V dq osq
                  subst hw''
                  generalize grow (redrawn V dq) osq = w7 at hb ⊢
                  replace a1 := a1.below hb
                  replace c1 := c1.below hb
                  replace hB := hB.trans (hb.mono hB.size)
                  clear hb q0 q1 q2 g0 g1 g2 g3 d1
                  go_wp2_with (refine load_blk rfl 25 _ rfl c1 rfl Try.underlying25 rfl Y.size ?_)
                  refine (pT _).mono ?_
                  rintro r w8 ⟨rfl, hb⟩
                  replace a1 := a1.below hb
                  replace c1 := c1.below hb
                  replace hB := hB.trans (hb.mono hB.size)
                  clear hb pT
                  go_wp2_with (refine store_part rfl 25 _ _ rfl (off := 0) (cells := Y'.arr) c1 rfl rfl Y'.size (by simp [Bt.arr_size]) Y'.arr_one ?_; intro w9 b9 k9; rw [hpa, HY'.out] at b9; have e1 := a1.kp1 k9 HP1.out; have hB9 : Below w.heap.size w w9 := hB.trans (k9.below1 HPL.out hB.size))
                  exact ⟨⟨t + 1, by omega, by go_num, e1, b9, hB9⟩, by simp [intOf]; omega⟩
                · rw [HZ2.out (by omega)] at q2
                  have g0 : decide ((t : Int) ≤ (wt : Int)) = false := by simp; omega
                  have g1 : decide ((wt : Int) < (t : Int)) = true := by simp; omega
                  have g2 : decide (t ≤ wt) = false := by simp; omega
                  have g3 : decide (wt < t) = true := by simp; omega
                  clear htl
                  refine wp_region_quiet_below (by kernel_rfl) (by kernel_rfl) ?_
                  repeat (go_big_quiet_step (fail))
                  refine wpQuiet_nil ?_
                  intro _ hw'
                  obtain ⟨⟨dq, osq⟩, hw''⟩ := hw'
                  have hb := below_regrown V dq osq
                  subst hw''
                  generalize grow (redrawn V dq) osq = w7 at hb ⊢
                  replace a1 := a1.below hb
                  replace c1 := c1.below hb
                  replace hB := hB.trans (hb.mono hB.size)
                  clear hb q0 q1 q2 g0 g1 g2 g3 d1
                  go_wp2_with (refine load_blk rfl 25 _ rfl c1 rfl Try.underlying25 rfl Y.size ?_)
                  refine (pT _).mono ?_
                  rintro r w8 ⟨rfl, hb⟩
                  replace a1 := a1.below hb
                  replace c1 := c1.below hb
                  replace hB := hB.trans (hb.mono hB.size)
                  clear hb pT
                  go_wp2_with (refine store_part rfl 25 _ _ rfl (off := 0) (cells := Y'.arr) c1 rfl rfl Y'.size (by simp [Bt.arr_size]) Y'.arr_one ?_; intro w9 b9 k9; rw [hpa, HY'.out] at b9; have e1 := a1.kp1 k9 HP1.out; have hB9 : Below w.heap.size w w9 := hB.trans (k9.below1 HPL.out hB.size))
                  exact ⟨⟨t + 1, by omega, by go_num, e1, b9, hB9⟩, by simp [intOf]; omega⟩
              · obtain rfl : t = wt + 3 := by omega
                have t0 : ¬ ((wt + 3 : Nat) : Int) ≤ (wt : Int) + 2 := by omega
                go_wp2_with fail
                go_ret
                exact ⟨rfl, hB⟩
      · have g1 : decide ((4000000000 : Int) < (b.now : Int)) = true := by simp; omega
        have g2 : decide ((200 : Int) < (wt : Int)) = false := by simp; omega
        have g3 : decide (200 < wt) = false := by simp; omega
        have g4 : decide (4000000000 < b.now) = true := by simp; omega
        clear pA HD HO h8 h9
        go_wp2_with fail
        refine (fixed_ok _).mono ?_
        rintro r w3 ⟨rfl, hb⟩
        replace hB := hB.trans (hb.mono hB.size)
        clear hb
        go_wp2_with fail
        go_ret
        exact ⟨rfl, hB⟩
    · have g2 : decide ((200 : Int) < (wt : Int)) = true := by simp; omega
      have g3 : decide (200 < wt) = true := by simp; omega
      clear pA HD HO h8
      go_wp2_with fail
      refine (fixed_ok _).mono ?_
      rintro r w3 ⟨rfl, hb⟩
      replace hB := hB.trans (hb.mono hB.size)
      clear hb
      go_wp2_with fail
      go_ret
      exact ⟨rfl, hB⟩

theorem walk (b : Bt) (ko : b.ok) (i : Int) (n : Nat) (kn : n < 4294967296) (a : Int) (wa : (Lit.int .u32 a).wf = true) (w : World) : Calls Try.prog 4 #[.agg b.arr, .agg (hc i n), .int .u32 a] w fun e w' => e = .returned (.bool true) ∧ Below w.heap.size w w' := by
  have hb := bounds_u32 wa
  obtain ⟨wt, rfl⟩ : ∃ k : Nat, a = (k : Int) := ⟨a.toNat, by omega⟩
  exact walk_nat b ko i n wt w

set_option maxRecDepth 100000 in
theorem lifted (os : Os) (started : os.Started) (H : Type) (enc : TypeId × Value → H) :
    ReturnsInHanded {} Try.checked os 4 .any (Rows.beatWaitsSpec.pre6 enc Try.prog Try.f4 Rows.beatWaitsRow.domain false) (Rows.beatWaitsSpec.post enc Try.prog Try.f4 false true false false) := by
  refine returnsInHanded_of_change_sized (C := Try.checked) own started (by kernel_rfl) Try.func4
    (ChangeSpec.witness6 (enc := enc) (C := Try.checked) false ⟨#[], #[.agg Bt.zero.arr, .agg (hc 0 0), .int .u32 0], []⟩ 8 (by kernel_rfl) (by kernel_rfl) (by kernel_rfl) (by kernel_rfl)) ?_
  intro W base args ds gs before hval0 hW hcnd hsz0 _
  have hval : ∀ (j : Nat) t v, Try.f4.params[j]? = some t → args[j]? = some v → Value.okWide Try.prog W .any base t v := hval0
  have hsz : (DataW.weightsEach Try.prog (Try.f4.params.toList ++ Rows.beatWaitsSpec.plain.varTypes Try.prog) (ds ++ gs)).all (· ≤ reachBytes) = true := hsz0
  have hW' := hW
  obtain ⟨p, q, hA0, hV, rfl, hfz, hnd⟩ := hW
  have hA : DataW.TrodAll enc Try.prog W 0 (fun _ => true) true Try.f4.params.toList args.toList ds p := hA0
  rw [Try.params4] at hA hval hsz

  obtain ⟨v0, vs0, d0, ds0, p0, q0, hargs, rfl, rfl, h0, r0⟩ := trodAll_cons hA
  obtain ⟨v1, vs1, d1, ds1, p1, q1, rfl, rfl, rfl, h1, r1⟩ := trodAll_cons r0
  obtain ⟨v2, vs2, d2, ds2, p2, q2, rfl, rfl, rfl, h2, r2⟩ := trodAll_cons r1
  obtain ⟨rfl, rfl, rfl⟩ := trodAll_nil r2
  obtain rfl : args = #[v0, v1, v2] := by cases args; simp_all
  obtain ⟨rfl, rfl⟩ := trodVars_none hV
  obtain ⟨b0, rfl, ko0⟩ := open_bt (by obtain ⟨cs, h1, _⟩ := okWide_struct Try.underlying25 (hval 0 25 v0 rfl rfl); exact ⟨cs, h1⟩) h0
  obtain ⟨i1, n1, rfl, kn1⟩ := open_hd (by obtain ⟨cs, h1, _⟩ := okWide_struct Try.underlying27 (hval 1 27 v1 rfl rfl); exact ⟨cs, h1⟩) h1
  obtain ⟨a2, rfl, rfl, rfl, w2⟩ := open_int Try.underlying22 (hval 2 22 v2 rfl rfl) h2
  have hA2 := hA0
  clear hA0 hval0 hsz0
  simp only [List.append_nil] at hW'
  refine (walk b0 ko0 i1 n1 kn1 a2 w2 W).mono fun e W' ⟨he, bel⟩ => ?_
  subst he
  exact ⟨_, rfl, _, _, _, [], _, [], hW', trodAll_mk1 (shut_bool Try.underlying4 _), (stays_all laidOut bel (by kernel_rfl) hA2), rfl, bel.frame _, fun h => by cases h⟩

theorem over : Rows.beatWaitsRow.holds Try.pinned (OpenSpec.ofChange Rows.beatWaitsSpec) :=
  OpenClaim.holds_of_wide 4 Try.f4 rfl rfl rfl rfl rfl rfl rfl ⟨rfl, rfl, rfl, rfl, rfl⟩ rfl rfl rfl rfl rfl (by kernel_rfl) Try.func4 (by kernel_rfl)
    (of_decide_eq_true (by kernel_rfl)) (by unfold Func.isWrapper; first | (rw [if_pos (by decide +kernel)]; kernel_rfl) | (rw [if_neg (by decide +kernel)]; exact ⟨rfl, rfl⟩))
    (fun os started H enc _ => lifted os started H enc)

end Go.Proofs.Yteodacgolpfodaa.beatWaits
namespace Go.Proofs.Yteodacgolpfodaa

theorem beatWaits_holds : Rows.BeatWaitsSaid := beatWaits.over
#print axioms beatWaits_holds

end Go.Proofs.Yteodacgolpfodaa
