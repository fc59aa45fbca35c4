/-
  Who was heard lately, and whom a clock reaches: what the code answers.
  A clock is one that a uint32 holds.
-/
import Derived.Test.YthgmecgknhphmaaBtA
namespace Go.Proofs.Ythgmecgknhphmaa
set_option maxRecDepth 10000
open Go.RowKit Go.Sort

def lateB (now h wt : Nat) : Bool := decide (h ≠ 0 ∧ h ≤ now ∧ now - h ≤ wt)
def rchB (b : Bt) (i : Int) (n wt : Nat) : Nat → Nat := fun j => if (j : Int) = i then n else if lateB b.now (b.hd j) wt = true then b.inc j else 0
def rchTo (b : Bt) (i : Int) (n wt : Nat) (j : Nat) : Nat → Nat := fun k => if k < j then rchB b i n wt k else 0
theorem rch_zero (b : Bt) (i : Int) (n wt : Nat) : mbc (rchTo b i n wt 0) = mbc noMb := rfl
theorem rch_full (b : Bt) (i : Int) (n wt : Nat) : mbc (rchTo b i n wt 8) = mbc (rchB b i n wt) := rfl
theorem rch_set (b : Bt) (i : Int) (n wt j v : Nat) (hj : j < 8) (h : rchB b i n wt j = v) : (mbc (rchTo b i n wt j)).setIfInBounds j (.int .u32 (v : Int)) = mbc (rchTo b i n wt (j + 1)) := by
  rw [mbc_set _ j _ hj]
  apply mbc_ext
  intro k hk
  unfold rchTo
  by_cases e : k = j
  · subst e; simp [h]
  · by_cases l : k < j
    · simp [e, l, show k < j + 1 by omega]
    · simp [e, l, show ¬ k < j + 1 by omega]
theorem rch_skip (b : Bt) (i : Int) (n wt j : Nat) (h : rchB b i n wt j = 0) : mbc (rchTo b i n wt j) = mbc (rchTo b i n wt (j + 1)) := by
  apply mbc_ext
  intro k hk
  unfold rchTo
  by_cases e : k = j
  · subst e; simp [h]
  · by_cases l : k < j
    · simp [l, show k < j + 1 by omega]
    · simp [l, show ¬ k < j + 1 by omega]

set_option maxHeartbeats 1000000 in
theorem lately_ok (now h wt : Nat) (hn : now < 4294967296) (w : World) : Calls Try.prog 89 #[.int .u32 (now : Int), .int .u32 (h : Int), .int .u32 (wt : Int)] w fun e w' => e = .returned (.bool (lateB now h wt)) ∧ Below w.heap.size w w' := by
  have hB : Below w.heap.size w w := Below.refl _ _
  obtain ⟨L, hL⟩ : ∃ L, Hid (lateB now h wt = L) := ⟨_, rfl⟩
  rw [hL.out]
  by_cases h0 : h = 0
  · subst h0
    obtain rfl : L = false := by rw [← hL.out]; simp [lateB]
    clear hL hn
    go_enter Try.func89, Try.ntmps89
    go_wp2_with fail
    go_ret
    exact ⟨rfl, hB⟩
  · have h0' : ((h : Int) != 0) = true := by rw [bne_iff_ne]; omega
    by_cases h1 : h ≤ now
    · have h1' : decide ((h : Int) ≤ (now : Int)) = true := by simp; omega
      have hw : IntKind.u32.wrap ((now : Int) - (h : Int)) = (now : Int) - (h : Int) := by rw [IntKind.wrap_u32]; omega
      by_cases h2 : now - h ≤ wt
      · have h2' : decide ((now : Int) - (h : Int) ≤ (wt : Int)) = true := by simp; omega
        obtain rfl : L = true := by rw [← hL.out]; simp [lateB, h0, h1, h2]
        clear hL hn h0 h2
        go_enter Try.func89, Try.ntmps89
        go_wp2_with fail
        go_ret
        exact ⟨rfl, hB⟩
      · have h2' : decide ((now : Int) - (h : Int) ≤ (wt : Int)) = false := by simp; omega
        obtain rfl : L = false := by rw [← hL.out]; simp [lateB, h2]
        clear hL hn h0 h2
        go_enter Try.func89, Try.ntmps89
        go_wp2_with fail
        go_ret
        exact ⟨rfl, hB⟩
    · have h1' : decide ((h : Int) ≤ (now : Int)) = false := by simp; omega
      obtain rfl : L = false := by rw [← hL.out]; simp [lateB, h1]
      clear hL hn h0
      go_enter Try.func89, Try.ntmps89
      go_wp2_with fail
      go_ret
      exact ⟨rfl, hB⟩

set_option maxHeartbeats 2000000 in
theorem reach_ok (b : Bt) (i : Int) (n wt : Nat) (hn : b.now < 4294967296) (w : World) : Calls Try.prog 61 #[.agg b.arr, .int .i64 i, .int .u32 (n : Int), .int .u32 (wt : Int)] w fun e w' => e = .returned (.agg (mbc (rchB b i n wt))) ∧ Below w.heap.size w w' := by
  obtain ⟨a0, a1, a2, hB⟩ := three_blk (T0 := 25) (T1 := 28) (T2 := 28) (C0 := b.arr) (C1 := mbc noMb) (C2 := mbc noMb) (w := w) rfl
  rw [← rch_zero b i n wt] at a2
  have HN : Hid (b.now < 4294967296) := hn
  clear hn
  go_enter Try.func61, Try.ntmps61
  go_wp2_with (refine alloc_zero zeroMb rfl rfl ?_)
  go_loopw [11] (fun iv wr => ∃ j : Nat, j ≤ 8 ∧ iv = .int .i64 j ∧ Blk w.heap.size b.arr 25 wr ∧ Blk (w.heap.size + 1) (mbc noMb) 28 wr ∧ Blk (w.heap.size + 1 + 1) (mbc (rchTo b i n wt j)) 28 wr ∧ Below w.heap.size w wr) (fun iv _ => 8 - (intOf iv).toNat)
  case atStart => exact ⟨0, by omega, rfl, a0, a1, a2, hB⟩
  case round =>
    clear a0 a1 a2 hB
    obtain ⟨j, hj, rfl, a0, a1, a2, hB⟩ := hrel
    by_cases hj8 : j < 8
    · have j0 : (j : Int) < 8 := by omega
      have j1 : (0 : Int) ≤ (j : Int) := by omega
      by_cases hji : (j : Int) = i
      · have hb : ((j : Int) == i) = true := by simpa using hji
        have hst := rch_set b i n wt j n hj8 (by simp [rchB, hji])
        clear hji
        go_wp2_with (refine store_one rfl 22 _ _ rfl (off := j) (.int .u32 (n : Int)) a2 rfl rfl rfl rfl sizeU32 (by rw [mbc_size]; omega) ?_; intro w5 b5 k5; rw [hst] at b5; have d0 := a0.kp1 k5 (by omega); have d1 := a1.kp1 k5 (by omega); have hD : Below w.heap.size w w5 := hB.trans (k5.below1 (by omega) hB.size))
        exact ⟨⟨j + 1, by omega, by go_num, d0, d1, b5, hD⟩, by simp [intOf]; omega⟩
      · have hb : ((j : Int) == i) = false := by simpa using hji
        have hr : rchB b i n wt j = if lateB b.now (b.hd j) wt = true then b.inc j else 0 := by simp [rchB, hji]
        clear hji
        cases hl : lateB b.now (b.hd j) wt with
        | true =>
          rw [hl, if_pos rfl] at hr
          have hst := rch_set b i n wt j _ hj8 hr
          have p0 : ∀ d os, Calls Try.prog 89 #[.int .u32 (b.now : Int), .int .u32 (b.hd j : Int), .int .u32 (wt : Int)] (grow (redrawn wr d) os) fun e w'' => e = .returned (.bool true) ∧ ∃ p : Regrown, w'' = grow (redrawn wr p.d) p.os := fun d os => Calls.regrown_of (by rw [← hl]; exact lately_ok b.now (b.hd j) wt HN.out _)
          have q0 : ∀ d os, (grow (redrawn wr d) os).cell? ⟨w.heap.size, 0, none⟩ = some (.int .u32 (b.now : Int)) := cell_regrown (a0.cell 0 _ b.get_now)
          have q1 : ∀ d os, (grow (redrawn wr d) os).cell? ⟨w.heap.size, 1 + j, none⟩ = some (.int .u32 (b.hd j : Int)) := cell_regrown (a0.cell (1 + j) _ (b.get_hd j hj8))
          clear hl
          go_wp2_with fail
          refine wp_region_quiet_below (by kernel_rfl) (by kernel_rfl) ?_
          repeat (go_big_quiet_step (with_reducible exact p0 _ _))
          refine wpQuiet_nil ?_
          intro _ hw'
          obtain ⟨⟨dq, osq⟩, hw''⟩ := hw'
          have hbb := below_regrown wr dq osq
          subst hw''
          generalize grow (redrawn wr dq) osq = w4 at hbb ⊢
          have a0 := a0.below hbb
          have a1 := a1.below hbb
          have a2 := a2.below hbb
          have hB := hB.trans (hbb.mono hB.size)
          clear hbb p0 q0 q1
          have c1 := a0.cell (9 + j) _ (b.get_inc j hj8)
          go_wp2_with (refine store_one rfl 22 _ _ rfl (off := j) (.int .u32 (b.inc j : Int)) a2 rfl rfl rfl rfl sizeU32 (by rw [mbc_size]; omega) ?_; intro w5 b5 k5; rw [hst] at b5; have d0 := a0.kp1 k5 (by omega); have d1 := a1.kp1 k5 (by omega); have hD : Below w.heap.size w w5 := hB.trans (k5.below1 (by omega) hB.size))
          exact ⟨⟨j + 1, by omega, by go_num, d0, d1, b5, hD⟩, by simp [intOf]; omega⟩
        | false =>
          rw [hl, if_neg (by decide)] at hr
          rw [rch_skip b i n wt j hr] at a2
          have p0 : ∀ d os, Calls Try.prog 89 #[.int .u32 (b.now : Int), .int .u32 (b.hd j : Int), .int .u32 (wt : Int)] (grow (redrawn wr d) os) fun e w'' => e = .returned (.bool false) ∧ ∃ p : Regrown, w'' = grow (redrawn wr p.d) p.os := fun d os => Calls.regrown_of (by rw [← hl]; exact lately_ok b.now (b.hd j) wt HN.out _)
          have q0 : ∀ d os, (grow (redrawn wr d) os).cell? ⟨w.heap.size, 0, none⟩ = some (.int .u32 (b.now : Int)) := cell_regrown (a0.cell 0 _ b.get_now)
          have q1 : ∀ d os, (grow (redrawn wr d) os).cell? ⟨w.heap.size, 1 + j, none⟩ = some (.int .u32 (b.hd j : Int)) := cell_regrown (a0.cell (1 + j) _ (b.get_hd j hj8))
          clear hl
          go_wp2_with fail
          refine wp_region_quiet_below (by kernel_rfl) (by kernel_rfl) ?_
          repeat (go_big_quiet_step (with_reducible exact p0 _ _))
          refine wpQuiet_nil ?_
          intro _ hw'
          obtain ⟨⟨dq, osq⟩, hw''⟩ := hw'
          have hbb := below_regrown wr dq osq
          subst hw''
          generalize grow (redrawn wr dq) osq = w4 at hbb ⊢
          have a0 := a0.below hbb
          have a1 := a1.below hbb
          have a2 := a2.below hbb
          have hB := hB.trans (hbb.mono hB.size)
          clear hbb p0 q0 q1
          go_wp2_with fail
          exact ⟨⟨j + 1, by omega, by go_num, a0, a1, a2, hB⟩, by simp [intOf]; omega⟩
    · obtain rfl : j = 8 := by omega
      rw [rch_full] at a2
      have hpa : putAt (mbc noMb) 0 (mbc (rchB b i n wt)).toList = mbc (rchB b i n wt) := putAt_all _ _ rfl
      obtain ⟨C, hC⟩ : ∃ C, Hid (mbc (rchB b i n wt) = C) := ⟨_, rfl⟩
      go_wp2_with (first | refine load_blk rfl 28 _ rfl a2 rfl Try.underlying28 rfl sizeMb ?_ | (refine store_part rfl 28 _ _ rfl (off := 0) (cells := mbc (rchB b i n wt)) a1 rfl rfl sizeMb (by simp [mbc_size]) (mbc_one _) ?_; intro w2 b2 k2; rw [hpa] at b2; have hB2 : Below w.heap.size w w2 := hB.trans (k2.below1 (by omega) hB.size)))
      refine bodyPost_ret (w := w2) (v := .agg (mbc (rchB b i n wt))) (ret_one rfl rfl b2 Try.underlying28 rfl sizeMb) rfl ⟨rfl, hB2⟩

end Go.Proofs.Ythgmecgknhphmaa
