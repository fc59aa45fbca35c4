/-
  The least count, whether a round is full, who may send, which place is ahead, one's position: what the document says.
  Counts are such as a uint32 holds.
-/
import Derived.Test.YtchkpgncelbhpaaRdD
import Derived.Test.YtchkpgncelbhpaaLsR
namespace Go.Proofs.Ytchkpgncelbhpaa
set_option maxRecDepth 10000
open Go.RowKit Go.Sort

def fullTo (c : Nat → Nat) (r : Nat) (L : List Nat) : Bool := L.all fun d => decide (r ≤ c d)

set_option maxHeartbeats 1000000 in
theorem rfull_ok (c m : Nat → Nat) (hc : ∀ i, c i < 4294967296) (x : Nat) (w : World) : Calls Try.prog 22 #[.agg (mbc c), .agg (mbc m), .int .u64 (x : Int)] w fun e w' => e = .returned (.bool (fullB c m x)) ∧ Below w.heap.size w w' := by
  obtain ⟨a0, a1, hB⟩ := two_blk (T0 := 24) (T1 := 25) (C0 := mbc c) (C1 := mbc m) (w := w) rfl
  obtain ⟨R, hR⟩ : ∃ R, Hid (fullTo c x (lst m) = R) := ⟨_, rfl⟩
  rw [show fullB c m x = R from hR.out]
  have HC : Hid (∀ i, c i < 4294967296) := hc
  have hm8 := lst_len m
  have HM : Hid (∀ j d, (lst m)[j]? = some d → d < 8) := fun j d h => (at_lst m j d h).1
  have hl := rlist_ok m
  unfold Listed at hl
  generalize lst m = L at *
  clear hc
  go_enter Try.func22, Try.ntmps22
  go_upto_region 1 with fail
  generalize (w.alloc (Obj.cells (mbc c) 24)).alloc (Obj.cells (mbc m) 25) = W at a0 a1 hB ⊢
  go_wp2_with (refine load_blk rfl 25 _ rfl a1 rfl Try.underlying25 rfl sizeMb ?_)
  refine (hl _).mono ?_
  rintro r w1 ⟨⟨la, lc, rfl, hS⟩, hb⟩
  replace a0 := a0.below hb
  replace hB := hB.trans (hb.mono hB.size)
  replace hS := hS.mono (Nat.zero_le _)
  clear hb hl a1
  obtain ⟨n, hn⟩ : ∃ n, L.length = n := ⟨_, rfl⟩
  have HN : Hid (L.length = n) := hn
  rw [hn] at hm8 ⊢
  clear hn
  go_wp2_with fail
  go_loopw [8] (fun iv wr => ∃ j : Nat, j ≤ n ∧ iv = .int .i64 j ∧ wr = w1 ∧ Hid (fullTo c x (L.take j) = true)) (fun iv _ => n - (intOf iv).toNat)
  case atStart => exact ⟨0, by omega, rfl, rfl, rfl⟩
  case round =>
    obtain ⟨j, hj, rfl, rfl, h0⟩ := hrel
    by_cases hjn : j < n
    · have j0 : (j : Int) < (n : Int) := by omega
      have j1 : (0 : Int) ≤ (j : Int) := by omega
      obtain ⟨d, hd⟩ : ∃ d, L[j]? = some d := ⟨_, List.getElem?_eq_getElem (by rw [HN.out]; exact hjn)⟩
      have hd8 := HM.out j d hd
      have d0 : (d : Int) < 8 := by omega
      have d1 : (0 : Int) ≤ (d : Int) := by omega
      obtain ⟨b, o, rfl, _, hbl, hr⟩ := hS.at nv_length j d hd
      have c0 : wr.cell? ⟨b, o + j, none⟩ = some (.int .i64 (d : Int)) := by have := hr 0 _ rfl; simpa using this
      have c1 := a0.cell d _ (mbc_get c d hd8)
      have hw : IntKind.u64.wrap (c d : Int) = (c d : Int) := by have := HC.out d; rw [IntKind.wrap_u64]; omega
      by_cases h1 : c d < x
      · have g1 : decide (c d < x) = true := by simpa using h1
        obtain rfl : R = false := by
          rw [← hR.out, fullTo, List.all_eq_false]
          exact ⟨d, List.mem_of_getElem? hd, by simp; omega⟩
        clear h1 hd hr h0 hR hS HC HM HN hbl
        go_wp2_with fail
        go_ret
        exact ⟨rfl, hB⟩
      · have g1 : decide (c d < x) = false := by simpa using h1
        have HS : Hid (fullTo c x (L.take (j + 1)) = true) := by
          show fullTo c x (L.take (j + 1)) = true
          rw [fullTo, List.take_add_one, hd, List.all_append, Bool.and_eq_true]
          exact ⟨h0.out, by simp; omega⟩
        clear h1 hd hr h0 hbl
        go_wp2_with fail
        exact ⟨⟨j + 1, by omega, by go_num, trivial, HS⟩, by simp [intOf]; omega⟩
    · obtain rfl : j = n := by omega
      have h := h0.out
      rw [List.take_of_length_le (by rw [HN.out]; omega), hR.out] at h
      subst h
      clear h0 HN HM hS a0 hR HC
      go_wp2_with fail
      go_ret
      exact ⟨rfl, hB⟩

set_option maxHeartbeats 2000000 in
theorem rleast_ok (c m : Nat → Nat) (w : World) : Calls Try.prog 9 #[.agg (mbc c), .agg (mbc m)] w fun e w' => e = .returned (.tuple #[.int .u32 (leastC c m : Nat), .bool (!(lst m).isEmpty)]) ∧ Below w.heap.size w w' := by
  obtain ⟨a0, a1, hB⟩ := two_blk (T0 := 24) (T1 := 25) (C0 := mbc c) (C1 := mbc m) (w := w) rfl
  obtain ⟨R, hR⟩ : ∃ R, Hid (leastC c m = R) := ⟨_, rfl⟩
  rw [hR.out]
  have hm8 := lst_len m
  have HM : Hid (∀ j d, (lst m)[j]? = some d → d < 8) := fun j d h => (at_lst m j d h).1
  have hl := rlist_ok m
  unfold Listed at hl
  have HL : Hid (leastL c (lst m) = R) := hR
  obtain ⟨t, ht⟩ : ∃ t, Hid ((!(lst m).isEmpty) = t) := ⟨_, rfl⟩
  rw [ht.out]
  generalize lst m = L at *
  clear hR
  go_enter Try.func9, Try.ntmps9
  go_upto_region 1 with fail
  generalize (w.alloc (Obj.cells (mbc c) 24)).alloc (Obj.cells (mbc m) 25) = W at a0 a1 hB ⊢
  go_wp2_with (refine load_blk rfl 25 _ rfl a1 rfl Try.underlying25 rfl sizeMb ?_)
  refine (hl _).mono ?_
  rintro r w1 ⟨⟨la, lc, rfl, hS⟩, hb⟩
  replace a0 := a0.below hb
  replace hB := hB.trans (hb.mono hB.size)
  replace hS := hS.mono (Nat.zero_le _)
  clear hb hl a1
  cases L with
  | nil =>
    have e : R = 0 := HL.out.symm
    have e2 : t = false := ht.out.symm
    subst e e2
    clear ht HL HM hm8 hS a0
    go_wp2_with fail
    go_ret2
    exact ⟨rfl, hB⟩
  | cons x l =>
    have hx8 := HM.out 0 x rfl
    obtain ⟨b, o, rfl, _, hbl, hr⟩ := hS.at nv_length 0 x rfl
    have q0 : w1.cell? ⟨b, o, none⟩ = some (.int .i64 (x : Int)) := by have := hr 0 _ rfl; simpa using this
    have q1 := a0.cell x _ (mbc_get c x hx8)
    have x0 : (x : Int) < 8 := by omega
    have x1 : (0 : Int) ≤ (x : Int) := by omega
    have HF : Hid (fm c (c x) (x :: l) = R) := by rw [← HL.out]; exact fm_head c x l
    obtain ⟨n, hn⟩ : ∃ n, (x :: l).length = n := ⟨_, rfl⟩
    have HN : Hid ((x :: l).length = n) := hn
    have e2 : t = true := ht.out.symm
    subst e2
    rw [hn]
    rw [hn] at hm8
    have hnp : 0 < n := by rw [← hn]; simp
    have hn0 : ¬ (n : Int) = 0 := by omega
    have n0 : (0 : Int) < (n : Int) := by omega
    have hS' : Hid (Li nv 0 (some ⟨b, o, none⟩) (x :: l) w1) := hS
    have hf1 : fm c (c x) ((x :: l).take 1) = c x := by show min (c x) (c x) = c x; exact Nat.min_self _
    clear hn hS hr HL ht
    go_wp2_with fail
    clear q0 q1 x0 x1 hx8 hn0 n0
    go_loopw [7, 8] (fun mv iv wr => ∃ j : Nat, j ≤ n ∧ iv = .int .i64 j ∧ mv = .int .u32 (fm c (c x) ((x :: l).take j) : Nat) ∧ wr = w1) (fun _ iv _ => n - (intOf iv).toNat)
    case atStart => exact ⟨1, by omega, rfl, by rw [hf1], rfl⟩
    case round =>
      clear hf1 hnp
      obtain ⟨j, hj, rfl, rfl, rfl⟩ := hrel
      by_cases hjn : j < n
      · have j0 : (j : Int) < (n : Int) := by omega
        have j1 : (0 : Int) ≤ (j : Int) := by omega
        obtain ⟨d, hd⟩ : ∃ d, (x :: l)[j]? = some d := ⟨_, List.getElem?_eq_getElem (by rw [HN.out]; exact hjn)⟩
        have hd8 := HM.out j d hd
        have d0 : (d : Int) < 8 := by omega
        have d1 : (0 : Int) ≤ (d : Int) := by omega
        obtain ⟨b', o', e', _, _, hr'⟩ := hS'.out.at nv_length j d hd
        injection e' with e'
        injection e' with e1 e2 e3
        subst e1 e2
        have q0 : wr.cell? ⟨b, o + j, none⟩ = some (.int .i64 (d : Int)) := by have := hr' 0 _ rfl; simpa using this
        have q1 := a0.cell d _ (mbc_get c d hd8)
        have hst := fm_take c (c x) (x :: l) j d hd
        generalize fm c (c x) ((x :: l).take j) = u at hst ⊢
        have HS : Hid (fm c (c x) ((x :: l).take (j + 1)) = min u (c d)) := hst
        clear hst hr' hd hd8 hbl
        by_cases h1 : c d < u
        · have h1' : (c d : Int) < (u : Int) := by omega
          have HE : Hid (min u (c d) = c d) := Nat.min_eq_right (by omega)
          clear h1
          go_wp2_with fail
          exact ⟨⟨j + 1, by omega, by go_num, by rw [HS.out, HE.out], trivial⟩, by simp [intOf]; omega⟩
        · have h1' : ¬ (c d : Int) < (u : Int) := by omega
          have HE : Hid (min u (c d) = u) := Nat.min_eq_left (by omega)
          clear h1
          go_wp2_with fail
          exact ⟨⟨j + 1, by omega, by go_num, by rw [HS.out, HE.out], trivial⟩, by simp [intOf]; omega⟩
      · obtain rfl : j = n := by omega
        have e : fm c (c x) ((x :: l).take j) = R := by rw [List.take_of_length_le (by rw [HN.out]; omega)]; exact HF.out
        rw [e]
        clear e HF HN HM hS' a0
        go_wp2_with fail
        go_ret2
        exact ⟨rfl, hB⟩

set_option maxHeartbeats 2000000 in
theorem rmay_ok (c m : Nat → Nat) (hc : ∀ i, c i < 4294967296) (v : Int) (w : World) : Calls Try.prog 12 #[.agg (mbc c), .agg (mbc m), .int .i64 v] w fun e w' => e = .returned (.bool (mayB c m v)) ∧ Below w.heap.size w w' := by
  obtain ⟨a0, a1, hB⟩ := two_blk (T0 := 24) (T1 := 25) (C0 := mbc c) (C1 := mbc m) (w := w) rfl
  obtain ⟨R, hR⟩ : ∃ R, Hid (mayB c m v = R) := ⟨_, rfl⟩
  rw [hR.out]
  have HC : Hid (∀ i, c i < 4294967296) := hc
  clear hc
  go_enter Try.func12, Try.ntmps12
  go_upto_region 1 with fail
  generalize (w.alloc (Obj.cells (mbc c) 24)).alloc (Obj.cells (mbc m) 25) = W at a0 a1 hB ⊢
  have qm := a1.regrown
  have qc := a0.regrown
  by_cases h0 : 0 ≤ v
  · have g0 : decide (0 ≤ v) = true := by simpa using h0
    by_cases h1 : v < 8
    · have g1 : decide (v < 8) = true := by simpa using h1
      obtain ⟨d, rfl⟩ : ∃ d : Nat, v = (d : Int) := ⟨v.toNat, by omega⟩
      have hd8 : d < 8 := by omega
      have q0 : ∀ d' os, (grow (redrawn W d') os).cell? ⟨w.heap.size, d, none⟩ = some (.int .u32 (c d : Int)) := cell_regrown (a0.cell d _ (mbc_get c d hd8))
      have q1 : ∀ d' os, (grow (redrawn W d') os).cell? ⟨w.heap.size + 1, d, none⟩ = some (.int .u32 (m d : Int)) := cell_regrown (a1.cell d _ (mbc_get m d hd8))
      have hw : IntKind.u64.wrap (c d : Int) = (c d : Int) := by have := HC.out d; rw [IntKind.wrap_u64]; omega
      have hf := rfull_ok c m HC.out (c d)
      by_cases h2 : m d = 0
      · have g2 : ((m d : Int) != 0) = false := by simp [h2]
        obtain rfl : R = false := by rw [← hR.out, mayB, isM, Int.toNat_natCast, h2]; simp
        have p0 := True.intro
        clear h2 hR HC hf
        refine wp_region_quiet_below (by kernel_rfl) (by kernel_rfl) ?_
        repeat (first
          | (go_big_quiet_want; refine quiet_load rfl rfl qm Try.underlying25 rfl sizeMb ?_; simp only [Act.put, List.setIfInBounds_toArray, List.set_cons_zero, List.set_cons_succ]; go_big_quiet_on)
          | (go_big_quiet_want; refine quiet_load rfl rfl qc Try.underlying24 rfl sizeCt ?_; simp only [Act.put, List.setIfInBounds_toArray, List.set_cons_zero, List.set_cons_succ]; go_big_quiet_on)
          | go_big_quiet_step (fail))
        refine wpQuiet_nil ?_
        intro _ hw'
        obtain ⟨⟨dq, osq⟩, hw''⟩ := hw'
        have hb := below_regrown W dq osq
        subst hw''
        generalize grow (redrawn W dq) osq = w5 at hb ⊢
        replace hB := hB.trans (hb.mono hB.size)
        clear hb qm qc
        clear q0 q1 a0 a1
        go_wp2_with fail
        go_ret
        exact ⟨rfl, hB⟩
      · have g2 : ((m d : Int) != 0) = true := by rw [bne_iff_ne]; omega
        have e : fullB c m (c d) = R := by rw [← hR.out]; exact (mayB_full c m d ((mem_lst m d).2 ⟨hd8, h2⟩)).symm
        rw [e] at hf
        have p0 : ∀ d' os, Calls Try.prog 22 #[.agg (mbc c), .agg (mbc m), .int .u64 (c d : Int)] (grow (redrawn W d') os) fun e w'' => e = .returned (.bool R) ∧ ∃ p : Regrown, w'' = grow (redrawn W p.d) p.os := fun d' os => Calls.regrown_of (hf _)
        clear h2 hR HC hf e
        refine wp_region_quiet_below (by kernel_rfl) (by kernel_rfl) ?_
        repeat (first
          | (go_big_quiet_want; refine quiet_load rfl rfl qm Try.underlying25 rfl sizeMb ?_; simp only [Act.put, List.setIfInBounds_toArray, List.set_cons_zero, List.set_cons_succ]; go_big_quiet_on)
          | (go_big_quiet_want; refine quiet_load rfl rfl qc Try.underlying24 rfl sizeCt ?_; simp only [Act.put, List.setIfInBounds_toArray, List.set_cons_zero, List.set_cons_succ]; go_big_quiet_on)
          | go_big_quiet_step (with_reducible exact p0 _ _))
        refine wpQuiet_nil ?_
        intro _ hw'
        obtain ⟨⟨dq, osq⟩, hw''⟩ := hw'
        have hb := below_regrown W dq osq
        subst hw''
        generalize grow (redrawn W dq) osq = w5 at hb ⊢
        replace hB := hB.trans (hb.mono hB.size)
        clear hb qm qc
        clear q0 q1 a0 a1 p0
        go_wp2_with fail
        go_ret
        exact ⟨rfl, hB⟩
    · have g1 : decide (v < 8) = false := by simpa using h1
      obtain rfl : R = false := by rw [← hR.out, mayB, isM]; simp [h1]
      clear h1 h0 hR HC
      refine wp_region_quiet_below (by kernel_rfl) (by kernel_rfl) ?_
      repeat (first
        | (go_big_quiet_want; refine quiet_load rfl rfl qm Try.underlying25 rfl sizeMb ?_; simp only [Act.put, List.setIfInBounds_toArray, List.set_cons_zero, List.set_cons_succ]; go_big_quiet_on)
        | (go_big_quiet_want; refine quiet_load rfl rfl qc Try.underlying24 rfl sizeCt ?_; simp only [Act.put, List.setIfInBounds_toArray, List.set_cons_zero, List.set_cons_succ]; go_big_quiet_on)
        | go_big_quiet_step (fail))
      refine wpQuiet_nil ?_
      intro _ hw'
      obtain ⟨⟨dq, osq⟩, hw''⟩ := hw'
      have hb := below_regrown W dq osq
      subst hw''
      generalize grow (redrawn W dq) osq = w5 at hb ⊢
      replace hB := hB.trans (hb.mono hB.size)
      clear hb qm qc
      clear a0 a1
      go_wp2_with fail
      go_ret
      exact ⟨rfl, hB⟩
  · have g0 : decide (0 ≤ v) = false := by simpa using h0
    obtain rfl : R = false := by rw [← hR.out, mayB, isM]; simp [h0]
    clear h0 hR HC
    refine wp_region_quiet_below (by kernel_rfl) (by kernel_rfl) ?_
    repeat (first
      | (go_big_quiet_want; refine quiet_load rfl rfl qm Try.underlying25 rfl sizeMb ?_; simp only [Act.put, List.setIfInBounds_toArray, List.set_cons_zero, List.set_cons_succ]; go_big_quiet_on)
      | (go_big_quiet_want; refine quiet_load rfl rfl qc Try.underlying24 rfl sizeCt ?_; simp only [Act.put, List.setIfInBounds_toArray, List.set_cons_zero, List.set_cons_succ]; go_big_quiet_on)
      | go_big_quiet_step (fail))
    refine wpQuiet_nil ?_
    intro _ hw'
    obtain ⟨⟨dq, osq⟩, hw''⟩ := hw'
    have hb := below_regrown W dq osq
    subst hw''
    generalize grow (redrawn W dq) osq = w5 at hb ⊢
    replace hB := hB.trans (hb.mono hB.size)
    clear hb qm qc
    clear a0 a1
    go_wp2_with fail
    go_ret
    exact ⟨rfl, hB⟩

set_option maxHeartbeats 1000000 in
theorem rbef_ok (a b : Pl) (w : World) : Calls Try.prog 14 #[.agg a.arr, .agg b.arr] w fun e w' => e = .returned (.bool (befB a b)) ∧ Below w.heap.size w w' := by
  obtain ⟨a0, a1, hB⟩ := two_blk (T0 := 27) (T1 := 27) (C0 := a.arr) (C1 := b.arr) (w := w) rfl
  obtain ⟨R, hR⟩ : ∃ R, Hid (befB a b = R) := ⟨_, rfl⟩
  rw [hR.out]
  go_enter Try.func14, Try.ntmps14
  go_upto_region 1 with fail
  generalize (w.alloc (Obj.cells a.arr 27)).alloc (Obj.cells b.arr 27) = W at a0 a1 hB ⊢
  have q0 := a0.cell 0 (.int .u32 (a.r : Int)) rfl
  have q1 := a0.cell 1 (.int .i64 a.f) rfl
  have q2 := a0.cell 2 (.int .i64 a.s) rfl
  have r0 := a1.cell 0 (.int .u32 (b.r : Int)) rfl
  have r1 := a1.cell 1 (.int .i64 b.f) rfl
  have r2 := a1.cell 2 (.int .i64 b.s) rfl
  clear a0 a1
  by_cases h1 : a.r = b.r
  · by_cases h2 : a.f = b.f
    · have h : decide (a.s < b.s) = R := by rw [← hR.out, befB, decide_eq_decide]; omega
      rw [h1] at q0
      rw [h2] at q1
      clear hR h1 h2
      subst h
      go_wp2_with fail
      go_ret
      exact ⟨rfl, hB⟩
    · have h : decide (a.f < b.f) = R := by rw [← hR.out, befB, decide_eq_decide]; omega
      have g2 : (a.f != b.f) = true := by rw [bne_iff_ne]; exact h2
      rw [h1] at q0
      clear hR h1 h2
      subst h
      go_wp2_with fail
      go_ret
      exact ⟨rfl, hB⟩
  · have h : decide (a.r < b.r) = R := by rw [← hR.out, befB, decide_eq_decide]; omega
    have g1 : ((a.r : Int) != (b.r : Int)) = true := by rw [bne_iff_ne]; omega
    clear hR h1
    subst h
    go_wp2_with fail
    go_ret
    exact ⟨rfl, hB⟩

set_option maxHeartbeats 4000000 in
theorem rpos_ok (c m : Nat → Nat) (hc : ∀ i, c i < 4294967296) (w : World) : Calls Try.prog 16 #[.agg (mbc c), .agg (mbc m)] w fun e w' => e = .returned (.agg (posP c m).arr) ∧ Below w.heap.size w w' := by
  obtain ⟨a0, a1, a2, hB⟩ := three_blk (T0 := 24) (T1 := 25) (T2 := 27) (C0 := mbc c) (C1 := mbc m) (C2 := Pl.zero.arr) (w := w) rfl
  obtain ⟨R, hR⟩ : ∃ R, posP c m = R := ⟨_, rfl⟩
  rw [hR]
  have hql := leastC_lt c m hc
  have pL := rleast_ok c m
  have HF1 : Hid (∀ d, fst c (leastC c m) (lst m) = some d → R = ⟨nxt (leastC c m), (d : Int), 0⟩) := fun d h => by rw [← hR]; exact posP_some c m d h
  have HF2 : Hid (fst c (leastC c m) (lst m) = none → R = Pl.zero) := fun h => by rw [← hR]; exact posP_none c m h
  have hm8 := lst_len m
  have HM : Hid (∀ j d, (lst m)[j]? = some d → d < 8) := fun j d h => (at_lst m j d h).1
  have hl := rlist_ok m
  unfold Listed at hl
  generalize leastC c m = q at *
  obtain ⟨y, hy⟩ : ∃ y, Hid ((!(lst m).isEmpty) = y) := ⟨_, rfl⟩
  rw [hy.out] at pL
  generalize lst m = L at *
  obtain ⟨x, hx⟩ : ∃ x, nxt q = x := ⟨_, rfl⟩
  rw [hx] at HF1
  clear hR hc
  go_enter Try.func16, Try.ntmps16
  go_upto_region 1 with (refine alloc_zero zeroPl rfl rfl ?_)
  generalize ((w.alloc (Obj.cells (mbc c) 24)).alloc (Obj.cells (mbc m) 25)).alloc (Obj.cells Pl.zero.arr 27) = W at a0 a1 a2 hB ⊢
  go_wp2_with (first | refine load_blk rfl 24 _ rfl a0 rfl Try.underlying24 rfl sizeCt ?_ | refine load_blk rfl 25 _ rfl a1 rfl Try.underlying25 rfl sizeMb ?_)
  refine (pL _).mono ?_
  rintro r w1 ⟨rfl, hb⟩
  replace a0 := a0.below hb
  replace a1 := a1.below hb
  replace a2 := a2.below hb
  replace hB := hB.trans (hb.mono hB.size)
  clear hb pL
  cases y with
  | false =>
    have hR := HF2.out (by have h := hy.out; cases L with | nil => rfl | cons a l => simp at h)
    subst hR
    have hpa : putAt Pl.zero.arr 0 Pl.zero.arr.toList = Pl.zero.arr := putAt_all _ _ rfl
    clear HF1 HF2 HM hl hy a0 a1 hx hql hm8
    go_wp2_with (first | refine build_zero builtPl rfl rfl ?_ | (refine store_part rfl 27 _ _ rfl (off := 0) (cells := Pl.zero.arr) a2 rfl rfl sizePl (by simp [Pl.arr_size]) (Pl.arr_one _) ?_; intro w9 b9 k9; rw [hpa] at b9; have hB9 : Below w.heap.size w w9 := hB.trans (k9.below1 (by omega) hB.size)))
    refine bodyPost_ret (w := w9) (v := .agg Pl.zero.arr) (ret_one rfl rfl b9 Try.underlying27 rfl sizePl) rfl ⟨rfl, hB9⟩
  | true =>
    clear hy
    by_cases hq : q < 4294967295
    · have g1 : IntKind.u32.wrap ((q : Int) + 1) = (x : Int) := by rw [← hx, nxt_lt hq, IntKind.wrap_u32]; omega
      have g0 : ((x : Int) != 0) = true := by rw [bne_iff_ne, ← hx, nxt_lt hq]; omega
      clear hq hql hx
      go_wp2_with (refine load_blk rfl 25 _ rfl a1 rfl Try.underlying25 rfl sizeMb ?_)
      refine (hl _).mono ?_
      rintro r w2 ⟨⟨la, lc, rfl, hS⟩, hb⟩
      replace a0 := a0.below hb
      replace a2 := a2.below hb
      replace hB := hB.trans (hb.mono hB.size)
      replace hS := hS.mono (Nat.zero_le _)
      clear hb hl a1 g0 g1
      obtain ⟨n, hn⟩ : ∃ n, L.length = n := ⟨_, rfl⟩
      have HN : Hid (L.length = n) := hn
      rw [hn] at hm8 ⊢
      clear hn
      go_wp2_with fail
      go_loopw [9] (fun iv wr => ∃ j : Nat, j ≤ n ∧ iv = .int .i64 j ∧ wr = w2 ∧ Hid (∀ e ∈ L.take j, c e ≠ q)) (fun iv _ => n - (intOf iv).toNat)
      case atStart => exact ⟨0, by omega, rfl, rfl, fun e h => by simp at h⟩
      case round =>
        obtain ⟨j, hj, rfl, rfl, h0⟩ := hrel
        by_cases hjn : j < n
        · have j0 : (j : Int) < (n : Int) := by omega
          have j1 : (0 : Int) ≤ (j : Int) := by omega
          obtain ⟨d, hd⟩ : ∃ d, L[j]? = some d := ⟨_, List.getElem?_eq_getElem (by rw [HN.out]; exact hjn)⟩
          have hd8 := HM.out j d hd
          have d0 : (d : Int) < 8 := by omega
          have d1 : (0 : Int) ≤ (d : Int) := by omega
          obtain ⟨b, o, rfl, _, hbl, hr⟩ := hS.at nv_length j d hd
          have c0 : wr.cell? ⟨b, o + j, none⟩ = some (.int .i64 (d : Int)) := by have := hr 0 _ rfl; simpa using this
          have c1 := a0.cell d _ (mbc_get c d hd8)
          by_cases h1 : c d = q
          · have hR := HF1.out d (fst_at c q L j d hd h0.out h1)
            subst hR
            have hpa : putAt Pl.zero.arr 0 (Pl.mk x (d : Int) 0).arr.toList = (Pl.mk x (d : Int) 0).arr := putAt_all _ _ rfl
            have g2 : ((c d : Int) == (q : Int)) = true := by simp [h1]
            clear h1 hr hd h0 hS HF1 HF2 HM
            go_wp2_with (first | refine build_as rfl 27 #[(0, .tmp 41), (1, .tmp 45)] rfl (C := (Pl.mk x (d : Int) 0).arr) (builtPl2 x d) ?_ | (refine store_part rfl 27 _ _ rfl (off := 0) (cells := (Pl.mk x (d : Int) 0).arr) a2 rfl rfl sizePl (by simp [Pl.arr_size]) (Pl.arr_one _) ?_; intro w9 b9 k9; rw [hpa] at b9; have hB9 : Below w.heap.size w w9 := hB.trans (k9.below1 (by omega) hB.size)))
            refine bodyPost_ret (w := w9) (v := .agg (Pl.mk x (d : Int) 0).arr) (ret_one rfl rfl b9 Try.underlying27 rfl sizePl) rfl ⟨rfl, hB9⟩
          · have HS : Hid (∀ e ∈ L.take (j + 1), c e ≠ q) := by
              intro e he
              rw [List.take_add_one, hd] at he
              rcases List.mem_append.1 he with he | he
              · exact h0.out e he
              · simp at he
                rw [he]
                exact h1
            have g2 : ((c d : Int) == (q : Int)) = false := by rw [beq_eq_false_iff_ne]; omega
            clear h1 hr hd h0
            go_wp2_with fail
            exact ⟨⟨j + 1, by omega, by go_num, trivial, HS⟩, by simp [intOf]; omega⟩
        · obtain rfl : j = n := by omega
          have hR := HF2.out (fst_none c q L (fun e he => h0.out e (by rw [List.take_of_length_le (by rw [HN.out]; omega)]; exact he)))
          subst hR
          have hpa : putAt Pl.zero.arr 0 Pl.zero.arr.toList = Pl.zero.arr := putAt_all _ _ rfl
          clear h0 hS HF1 HF2 HM HN
          go_wp2_with (first | refine build_zero builtPl rfl rfl ?_ | (refine store_part rfl 27 _ _ rfl (off := 0) (cells := Pl.zero.arr) a2 rfl rfl sizePl (by simp [Pl.arr_size]) (Pl.arr_one _) ?_; intro w9 b9 k9; rw [hpa] at b9; have hB9 : Below w.heap.size w w9 := hB.trans (k9.below1 (by omega) hB.size)))
          refine bodyPost_ret (w := w9) (v := .agg Pl.zero.arr) (ret_one rfl rfl b9 Try.underlying27 rfl sizePl) rfl ⟨rfl, hB9⟩
    · have g1 : IntKind.u32.wrap ((q : Int) + 1) = 0 := by rw [IntKind.wrap_u32]; omega
      obtain rfl : q = x := by rw [← hx, nxt_ge hq]
      have g0 := True.intro
      clear hq hql hx
      go_wp2_with (refine load_blk rfl 25 _ rfl a1 rfl Try.underlying25 rfl sizeMb ?_)
      refine (hl _).mono ?_
      rintro r w2 ⟨⟨la, lc, rfl, hS⟩, hb⟩
      replace a0 := a0.below hb
      replace a2 := a2.below hb
      replace hB := hB.trans (hb.mono hB.size)
      replace hS := hS.mono (Nat.zero_le _)
      clear hb hl a1 g0 g1
      obtain ⟨n, hn⟩ : ∃ n, L.length = n := ⟨_, rfl⟩
      have HN : Hid (L.length = n) := hn
      rw [hn] at hm8 ⊢
      clear hn
      go_wp2_with fail
      go_loopw [9] (fun iv wr => ∃ j : Nat, j ≤ n ∧ iv = .int .i64 j ∧ wr = w2 ∧ Hid (∀ e ∈ L.take j, c e ≠ q)) (fun iv _ => n - (intOf iv).toNat)
      case atStart => exact ⟨0, by omega, rfl, rfl, fun e h => by simp at h⟩
      case round =>
        obtain ⟨j, hj, rfl, rfl, h0⟩ := hrel
        by_cases hjn : j < n
        · have j0 : (j : Int) < (n : Int) := by omega
          have j1 : (0 : Int) ≤ (j : Int) := by omega
          obtain ⟨d, hd⟩ : ∃ d, L[j]? = some d := ⟨_, List.getElem?_eq_getElem (by rw [HN.out]; exact hjn)⟩
          have hd8 := HM.out j d hd
          have d0 : (d : Int) < 8 := by omega
          have d1 : (0 : Int) ≤ (d : Int) := by omega
          obtain ⟨b, o, rfl, _, hbl, hr⟩ := hS.at nv_length j d hd
          have c0 : wr.cell? ⟨b, o + j, none⟩ = some (.int .i64 (d : Int)) := by have := hr 0 _ rfl; simpa using this
          have c1 := a0.cell d _ (mbc_get c d hd8)
          by_cases h1 : c d = q
          · have hR := HF1.out d (fst_at c q L j d hd h0.out h1)
            subst hR
            have hpa : putAt Pl.zero.arr 0 (Pl.mk q (d : Int) 0).arr.toList = (Pl.mk q (d : Int) 0).arr := putAt_all _ _ rfl
            have g2 : ((c d : Int) == (q : Int)) = true := by simp [h1]
            clear h1 hr hd h0 hS HF1 HF2 HM
            go_wp2_with (first | refine build_as rfl 27 #[(0, .tmp 41), (1, .tmp 45)] rfl (C := (Pl.mk q (d : Int) 0).arr) (builtPl2 q d) ?_ | (refine store_part rfl 27 _ _ rfl (off := 0) (cells := (Pl.mk q (d : Int) 0).arr) a2 rfl rfl sizePl (by simp [Pl.arr_size]) (Pl.arr_one _) ?_; intro w9 b9 k9; rw [hpa] at b9; have hB9 : Below w.heap.size w w9 := hB.trans (k9.below1 (by omega) hB.size)))
            refine bodyPost_ret (w := w9) (v := .agg (Pl.mk q (d : Int) 0).arr) (ret_one rfl rfl b9 Try.underlying27 rfl sizePl) rfl ⟨rfl, hB9⟩
          · have HS : Hid (∀ e ∈ L.take (j + 1), c e ≠ q) := by
              intro e he
              rw [List.take_add_one, hd] at he
              rcases List.mem_append.1 he with he | he
              · exact h0.out e he
              · simp at he
                rw [he]
                exact h1
            have g2 : ((c d : Int) == (q : Int)) = false := by rw [beq_eq_false_iff_ne]; omega
            clear h1 hr hd h0
            go_wp2_with fail
            exact ⟨⟨j + 1, by omega, by go_num, trivial, HS⟩, by simp [intOf]; omega⟩
        · obtain rfl : j = n := by omega
          have hR := HF2.out (fst_none c q L (fun e he => h0.out e (by rw [List.take_of_length_le (by rw [HN.out]; omega)]; exact he)))
          subst hR
          have hpa : putAt Pl.zero.arr 0 Pl.zero.arr.toList = Pl.zero.arr := putAt_all _ _ rfl
          clear h0 hS HF1 HF2 HM HN
          go_wp2_with (first | refine build_zero builtPl rfl rfl ?_ | (refine store_part rfl 27 _ _ rfl (off := 0) (cells := Pl.zero.arr) a2 rfl rfl sizePl (by simp [Pl.arr_size]) (Pl.arr_one _) ?_; intro w9 b9 k9; rw [hpa] at b9; have hB9 : Below w.heap.size w w9 := hB.trans (k9.below1 (by omega) hB.size)))
          refine bodyPost_ret (w := w9) (v := .agg Pl.zero.arr) (ret_one rfl rfl b9 Try.underlying27 rfl sizePl) rfl ⟨rfl, hB9⟩

end Go.Proofs.Ytchkpgncelbhpaa
