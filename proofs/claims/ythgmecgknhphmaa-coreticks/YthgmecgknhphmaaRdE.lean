/-
  The least count, and who may send: what the document says.
  Counts are such as a uint32 holds.
-/
import Derived.Test.YthgmecgknhphmaaRdA
import Derived.Test.YthgmecgknhphmaaLsR
namespace Go.Proofs.Ythgmecgknhphmaa
set_option maxRecDepth 10000
open Go.RowKit Go.Sort

def fullTo (c : Nat → Nat) (r : Nat) (L : List Nat) : Bool := L.all fun d => decide (r ≤ c d)

set_option maxHeartbeats 1000000 in
theorem rfull_ok (c m : Nat → Nat) (hc : ∀ i, c i < 4294967296) (x : Nat) (w : World) : Calls Try.prog 75 #[.agg (mbc c), .agg (mbc m), .int .u64 (x : Int)] w fun e w' => e = .returned (.bool (fullB c m x)) ∧ Below w.heap.size w w' := by
  obtain ⟨a0, a1, hB⟩ := two_blk (T0 := 29) (T1 := 28) (C0 := mbc c) (C1 := mbc m) (w := w) rfl
  obtain ⟨R, hR⟩ : ∃ R, Hid (fullTo c x (lst m) = R) := ⟨_, rfl⟩
  rw [show fullB c m x = R from hR.out]
  have HC : Hid (∀ i, c i < 4294967296) := hc
  have hm8 := lst_len m
  have HM : Hid (∀ j d, (lst m)[j]? = some d → d < 8) := fun j d h => (at_lst m j d h).1
  have hl := rlist_ok m
  unfold Listed at hl
  generalize lst m = L at *
  clear hc
  go_enter Try.func75, Try.ntmps75
  go_upto_region 1 with fail
  generalize (w.alloc (Obj.cells (mbc c) 29)).alloc (Obj.cells (mbc m) 28) = W at a0 a1 hB ⊢
  go_wp2_with (refine load_blk rfl 28 _ rfl a1 rfl Try.underlying28 rfl sizeMb ?_)
  refine (hl _).mono ?_
  rintro r w1 ⟨⟨la, lc, rfl, hS⟩, hb⟩
  replace a0 := a0.below hb
  replace hB := hB.trans (hb.mono hB.size)
  replace hS := hS.mono (Nat.zero_le _)
  clear hb hl a1
  obtain ⟨n, hn⟩ : ∃ n, L.length = n := ⟨_, rfl⟩
  have HN : Hid (L.length = n) := hn
  rw [hn] at hm8 ⊢
  clear hn
  go_wp2_with fail
  go_loopw [8] (fun iv wr => ∃ j : Nat, j ≤ n ∧ iv = .int .i64 j ∧ wr = w1 ∧ Hid (fullTo c x (L.take j) = true)) (fun iv _ => n - (intOf iv).toNat)
  case atStart => exact ⟨0, by omega, rfl, rfl, rfl⟩
  case round =>
    obtain ⟨j, hj, rfl, rfl, h0⟩ := hrel
    by_cases hjn : j < n
    · have j0 : (j : Int) < (n : Int) := by omega
      have j1 : (0 : Int) ≤ (j : Int) := by omega
      obtain ⟨d, hd⟩ : ∃ d, L[j]? = some d := ⟨_, List.getElem?_eq_getElem (by rw [HN.out]; exact hjn)⟩
      have hd8 := HM.out j d hd
      have d0 : (d : Int) < 8 := by omega
      have d1 : (0 : Int) ≤ (d : Int) := by omega
      obtain ⟨b, o, rfl, _, hbl, hr⟩ := hS.at nv_length j d hd
      have c0 : wr.cell? ⟨b, o + j, none⟩ = some (.int .i64 (d : Int)) := by have := hr 0 _ rfl; simpa using this
      have c1 := a0.cell d _ (mbc_get c d hd8)
      have hw : IntKind.u64.wrap (c d : Int) = (c d : Int) := by have := HC.out d; rw [IntKind.wrap_u64]; omega
      by_cases h1 : c d < x
      · have g1 : decide (c d < x) = true := by simpa using h1
        obtain rfl : R = false := by
          rw [← hR.out, fullTo, List.all_eq_false]
          exact ⟨d, List.mem_of_getElem? hd, by simp; omega⟩
        clear h1 hd hr h0 hR hS HC HM HN hbl
        go_wp2_with fail
        go_ret
        exact ⟨rfl, hB⟩
      · have g1 : decide (c d < x) = false := by simpa using h1
        have HS : Hid (fullTo c x (L.take (j + 1)) = true) := by
          show fullTo c x (L.take (j + 1)) = true
          rw [fullTo, List.take_add_one, hd, List.all_append, Bool.and_eq_true]
          exact ⟨h0.out, by simp; omega⟩
        clear h1 hd hr h0 hbl
        go_wp2_with fail
        exact ⟨⟨j + 1, by omega, by go_num, trivial, HS⟩, by simp [intOf]; omega⟩
    · obtain rfl : j = n := by omega
      have h := h0.out
      rw [List.take_of_length_le (by rw [HN.out]; omega), hR.out] at h
      subst h
      clear h0 HN HM hS a0 hR HC
      go_wp2_with fail
      go_ret
      exact ⟨rfl, hB⟩

set_option maxHeartbeats 2000000 in
theorem rmay_ok (c m : Nat → Nat) (hc : ∀ i, c i < 4294967296) (v : Int) (w : World) : Calls Try.prog 39 #[.agg (mbc c), .agg (mbc m), .int .i64 v] w fun e w' => e = .returned (.bool (mayB c m v)) ∧ Below w.heap.size w w' := by
  obtain ⟨a0, a1, hB⟩ := two_blk (T0 := 29) (T1 := 28) (C0 := mbc c) (C1 := mbc m) (w := w) rfl
  obtain ⟨R, hR⟩ : ∃ R, Hid (mayB c m v = R) := ⟨_, rfl⟩
  rw [hR.out]
  have HC : Hid (∀ i, c i < 4294967296) := hc
  clear hc
  go_enter Try.func39, Try.ntmps39
  go_upto_region 1 with fail
  generalize (w.alloc (Obj.cells (mbc c) 29)).alloc (Obj.cells (mbc m) 28) = W at a0 a1 hB ⊢
  have qm := a1.regrown
  have qc := a0.regrown
  by_cases h0 : 0 ≤ v
  · have g0 : decide (0 ≤ v) = true := by simpa using h0
    by_cases h1 : v < 8
    · have g1 : decide (v < 8) = true := by simpa using h1
      obtain ⟨d, rfl⟩ : ∃ d : Nat, v = (d : Int) := ⟨v.toNat, by omega⟩
      have hd8 : d < 8 := by omega
      have q0 : ∀ d' os, (grow (redrawn W d') os).cell? ⟨w.heap.size, d, none⟩ = some (.int .u32 (c d : Int)) := cell_regrown (a0.cell d _ (mbc_get c d hd8))
      have q1 : ∀ d' os, (grow (redrawn W d') os).cell? ⟨w.heap.size + 1, d, none⟩ = some (.int .u32 (m d : Int)) := cell_regrown (a1.cell d _ (mbc_get m d hd8))
      have hw : IntKind.u64.wrap (c d : Int) = (c d : Int) := by have := HC.out d; rw [IntKind.wrap_u64]; omega
      have hf := rfull_ok c m HC.out (c d)
      by_cases h2 : m d = 0
      · have g2 : ((m d : Int) != 0) = false := by simp [h2]
        obtain rfl : R = false := by rw [← hR.out, mayB, isM, Int.toNat_natCast, h2]; simp
        have p0 := True.intro
        clear h2 hR HC hf
        refine wp_region_quiet_below (by kernel_rfl) (by kernel_rfl) ?_
        repeat (first
          | (go_big_quiet_want; refine quiet_load rfl rfl qm Try.underlying28 rfl sizeMb ?_; simp only [Act.put, List.setIfInBounds_toArray, List.set_cons_zero, List.set_cons_succ]; go_big_quiet_on)
          | (go_big_quiet_want; refine quiet_load rfl rfl qc Try.underlying29 rfl sizeCt ?_; simp only [Act.put, List.setIfInBounds_toArray, List.set_cons_zero, List.set_cons_succ]; go_big_quiet_on)
          | go_big_quiet_step (fail))
        refine wpQuiet_nil ?_
        intro _ hw'
        obtain ⟨⟨dq, osq⟩, hw''⟩ := hw'
        have hb := below_regrown W dq osq
        subst hw''
        generalize grow (redrawn W dq) osq = w5 at hb ⊢
        replace hB := hB.trans (hb.mono hB.size)
        clear hb qm qc
        clear q0 q1 a0 a1
        go_wp2_with fail
        go_ret
        exact ⟨rfl, hB⟩
      · have g2 : ((m d : Int) != 0) = true := by rw [bne_iff_ne]; omega
        have e : fullB c m (c d) = R := by rw [← hR.out]; exact (mayB_full c m d ((mem_lst m d).2 ⟨hd8, h2⟩)).symm
        rw [e] at hf
        have p0 : ∀ d' os, Calls Try.prog 75 #[.agg (mbc c), .agg (mbc m), .int .u64 (c d : Int)] (grow (redrawn W d') os) fun e w'' => e = .returned (.bool R) ∧ ∃ p : Regrown, w'' = grow (redrawn W p.d) p.os := fun d' os => Calls.regrown_of (hf _)
        clear h2 hR HC hf e
        refine wp_region_quiet_below (by kernel_rfl) (by kernel_rfl) ?_
        repeat (first
          | (go_big_quiet_want; refine quiet_load rfl rfl qm Try.underlying28 rfl sizeMb ?_; simp only [Act.put, List.setIfInBounds_toArray, List.set_cons_zero, List.set_cons_succ]; go_big_quiet_on)
          | (go_big_quiet_want; refine quiet_load rfl rfl qc Try.underlying29 rfl sizeCt ?_; simp only [Act.put, List.setIfInBounds_toArray, List.set_cons_zero, List.set_cons_succ]; go_big_quiet_on)
          | go_big_quiet_step (with_reducible exact p0 _ _))
        refine wpQuiet_nil ?_
        intro _ hw'
        obtain ⟨⟨dq, osq⟩, hw''⟩ := hw'
        have hb := below_regrown W dq osq
        subst hw''
        generalize grow (redrawn W dq) osq = w5 at hb ⊢
        replace hB := hB.trans (hb.mono hB.size)
        clear hb qm qc
        clear q0 q1 a0 a1 p0
        go_wp2_with fail
        go_ret
        exact ⟨rfl, hB⟩
    · have g1 : decide (v < 8) = false := by simpa using h1
      obtain rfl : R = false := by rw [← hR.out, mayB, isM]; simp [h1]
      clear h1 h0 hR HC
      refine wp_region_quiet_below (by kernel_rfl) (by kernel_rfl) ?_
      repeat (first
        | (go_big_quiet_want; refine quiet_load rfl rfl qm Try.underlying28 rfl sizeMb ?_; simp only [Act.put, List.setIfInBounds_toArray, List.set_cons_zero, List.set_cons_succ]; go_big_quiet_on)
        | (go_big_quiet_want; refine quiet_load rfl rfl qc Try.underlying29 rfl sizeCt ?_; simp only [Act.put, List.setIfInBounds_toArray, List.set_cons_zero, List.set_cons_succ]; go_big_quiet_on)
        | go_big_quiet_step (fail))
      refine wpQuiet_nil ?_
      intro _ hw'
      obtain ⟨⟨dq, osq⟩, hw''⟩ := hw'
      have hb := below_regrown W dq osq
      subst hw''
      generalize grow (redrawn W dq) osq = w5 at hb ⊢
      replace hB := hB.trans (hb.mono hB.size)
      clear hb qm qc
      clear a0 a1
      go_wp2_with fail
      go_ret
      exact ⟨rfl, hB⟩
  · have g0 : decide (0 ≤ v) = false := by simpa using h0
    obtain rfl : R = false := by rw [← hR.out, mayB, isM]; simp [h0]
    clear h0 hR HC
    refine wp_region_quiet_below (by kernel_rfl) (by kernel_rfl) ?_
    repeat (first
      | (go_big_quiet_want; refine quiet_load rfl rfl qm Try.underlying28 rfl sizeMb ?_; simp only [Act.put, List.setIfInBounds_toArray, List.set_cons_zero, List.set_cons_succ]; go_big_quiet_on)
      | (go_big_quiet_want; refine quiet_load rfl rfl qc Try.underlying29 rfl sizeCt ?_; simp only [Act.put, List.setIfInBounds_toArray, List.set_cons_zero, List.set_cons_succ]; go_big_quiet_on)
      | go_big_quiet_step (fail))
    refine wpQuiet_nil ?_
    intro _ hw'
    obtain ⟨⟨dq, osq⟩, hw''⟩ := hw'
    have hb := below_regrown W dq osq
    subst hw''
    generalize grow (redrawn W dq) osq = w5 at hb ⊢
    replace hB := hB.trans (hb.mono hB.size)
    clear hb qm qc
    clear a0 a1
    go_wp2_with fail
    go_ret
    exact ⟨rfl, hB⟩

end Go.Proofs.Ythgmecgknhphmaa
