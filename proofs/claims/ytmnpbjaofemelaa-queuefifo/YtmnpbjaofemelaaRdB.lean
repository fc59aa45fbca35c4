/-
  What may be delivered: what the code answers.
  A place's round is one that a uint32 holds.
-/
import Derived.Test.YtmnpbjaofemelaaRdA
import Derived.Test.YtmnpbjaofemelaaRdM
namespace Go.Proofs.Ytmnpbjaofemelaa
set_option maxRecDepth 10000
open Go.RowKit Go.Sort

def lowTo (c : Nat → Nat) (p : Pl) (L : List Nat) : Bool := L.all fun d => !(decide ((d : Int) < p.f) && decide (c d < p.r))
theorem lowTo_bad (c : Nat → Nat) (p : Pl) (L : List Nat) (j d : Nat) (h : L[j]? = some d) (h1 : (d : Int) < p.f) (h2 : c d < p.r) : lowTo c p L = false := by
  rw [lowTo, List.all_eq_false]
  exact ⟨d, List.mem_of_getElem? h, by simp [h1, h2]⟩
theorem lowTo_next (c : Nat → Nat) (p : Pl) (L : List Nat) (j d : Nat) (h : L[j]? = some d) (h0 : lowTo c p (L.take j) = true) (h1 : ¬ ((d : Int) < p.f ∧ c d < p.r)) : lowTo c p (L.take (j + 1)) = true := by
  rw [lowTo, List.take_add_one, h, List.all_append, Bool.and_eq_true]
  refine ⟨h0, ?_⟩
  simp
  by_cases e : (d : Int) < p.f
  · right; omega
  · left; omega

set_option maxHeartbeats 2000000 in
theorem lower_ok (c m : Nat → Nat) (p : Pl) (w : World) : Calls Try.prog 34 #[.agg (mbc c), .agg (mbc m), .agg p.arr] w fun e w' => e = .returned (.bool (lowB c m p)) ∧ Below w.heap.size w w' := by
  obtain ⟨a0, a1, a2, hB⟩ := three_blk (T0 := 28) (T1 := 29) (T2 := 42) (C0 := mbc c) (C1 := mbc m) (C2 := p.arr) (w := w) rfl
  obtain ⟨R, hR⟩ : ∃ R, Hid (lowTo c p (lst m) = R) := ⟨_, rfl⟩
  rw [show lowB c m p = R from hR.out]
  have hm8 := lst_len m
  have HM : Hid (∀ j d, (lst m)[j]? = some d → d < 8) := fun j d h => (at_lst m j d h).1
  have hl := list_ok m
  unfold Listed at hl
  generalize lst m = L at *
  go_enter Try.func34, Try.ntmps34
  go_upto_region 1 with fail
  generalize ((w.alloc (Obj.cells (mbc c) 28)).alloc (Obj.cells (mbc m) 29)).alloc (Obj.cells p.arr 42) = W at a0 a1 a2 hB ⊢
  go_wp2_with (refine load_blk rfl 29 _ rfl a1 rfl Try.underlying29 rfl sizeMb ?_)
  refine (hl _).mono ?_
  rintro r w1 ⟨⟨la, lc, rfl, hS⟩, hb⟩
  replace a0 := a0.below hb
  replace a2 := a2.below hb
  replace hB := hB.trans (hb.mono hB.size)
  replace hS := hS.mono (Nat.zero_le _)
  clear hb hl a1
  obtain ⟨n, hn⟩ : ∃ n, L.length = n := ⟨_, rfl⟩
  have HN : Hid (L.length = n) := hn
  rw [hn] at hm8 ⊢
  clear hn
  go_wp2_with fail
  go_loopw [12] (fun iv wr => ∃ j : Nat, j ≤ n ∧ iv = .int .i64 j ∧ Hid (lowTo c p (L.take j) = true) ∧ Blk w.heap.size (mbc c) 28 wr ∧ Blk (w.heap.size + 1 + 1) p.arr 42 wr ∧ Li nv 0 la L wr ∧ Below w.heap.size w wr) (fun iv _ => n - (intOf iv).toNat)
  case atStart => exact ⟨0, by omega, rfl, rfl, a0, a2, hS, hB⟩
  case round =>
    clear a0 a2 hS hB
    obtain ⟨j, hj, rfl, h0, a0, a2, hS, hB⟩ := hrel
    by_cases hjn : j < n
    · have j0 : (j : Int) < (n : Int) := by omega
      have j1 : (0 : Int) ≤ (j : Int) := by omega
      obtain ⟨d, hd⟩ : ∃ d, L[j]? = some d := ⟨_, List.getElem?_eq_getElem (by rw [HN.out]; exact hjn)⟩
      have hd8 := HM.out j d hd
      have d0 : (d : Int) < 8 := by omega
      have d1 : (0 : Int) ≤ (d : Int) := by omega
      obtain ⟨b, o, rfl, _, hbl, hr⟩ := hS.at nv_length j d hd
      have c0 : wr.cell? ⟨b, o + j, none⟩ = some (.int .i64 (d : Int)) := by have := hr 0 _ rfl; simpa using this
      have q0 : ∀ d' os, (grow (redrawn wr d') os).cell? ⟨w.heap.size, d, none⟩ = some (.int .u32 (c d : Int)) := cell_regrown (a0.cell d _ (mbc_get c d hd8))
      have q1 : ∀ d' os, (grow (redrawn wr d') os).cell? ⟨w.heap.size + 1 + 1, 0, none⟩ = some (.int .u32 (p.r : Int)) := cell_regrown (a2.cell 0 _ rfl)
      have q2 : ∀ d' os, (grow (redrawn wr d') os).cell? ⟨w.heap.size + 1 + 1, 1, none⟩ = some (.int .i64 p.f) := cell_regrown (a2.cell 1 _ rfl)
      by_cases h1 : (d : Int) < p.f
      · have g1 : decide ((d : Int) < p.f) = true := by simpa using h1
        by_cases h2 : c d < p.r
        · have g2 : decide (c d < p.r) = true := by simpa using h2
          obtain rfl : R = false := by rw [← hR.out]; exact lowTo_bad c p L j d hd h1 h2
          clear h1 h2 hd hr h0 hR hbl
          go_wp2_with fail
          refine wp_region_quiet_below (by kernel_rfl) (by kernel_rfl) ?_
          repeat (go_big_quiet_step (fail))
          refine wpQuiet_nil ?_
          intro _ hw'
          obtain ⟨⟨dq, osq⟩, hw''⟩ := hw'
          have hb := below_regrown wr dq osq
          subst hw''
          generalize grow (redrawn wr dq) osq = w5 at hb ⊢
          replace hB := hB.trans (hb.mono hB.size)
          clear hb q0 q1 q2 c0 a0 a2 hS HM HN
          go_wp2_with fail
          go_ret
          exact ⟨rfl, hB⟩
        · have g2 : decide (c d < p.r) = false := by simpa using h2
          have HS : Hid (lowTo c p (L.take (j + 1)) = true) := lowTo_next c p L j d hd h0.out (fun h => h2 h.2)
          clear hd hr h0 hbl
          go_wp2_with fail
          refine wp_region_quiet_below (by kernel_rfl) (by kernel_rfl) ?_
          repeat (go_big_quiet_step (fail))
          refine wpQuiet_nil ?_
          intro _ hw'
          obtain ⟨⟨dq, osq⟩, hw''⟩ := hw'
          have hb := below_regrown wr dq osq
          subst hw''
          generalize grow (redrawn wr dq) osq = w5 at hb ⊢
          replace a0 := a0.below hb
          replace a2 := a2.below hb
          replace hS := hS.below hb
          replace hB := hB.trans (hb.mono hB.size)
          clear hb q0 q1 q2 c0
          go_wp2_with fail
          exact ⟨⟨j + 1, by omega, by go_num, HS, a0, a2, hS, hB⟩, by simp [intOf]; omega⟩
      · have g1 : decide ((d : Int) < p.f) = false := by simpa using h1
        have HS : Hid (lowTo c p (L.take (j + 1)) = true) := lowTo_next c p L j d hd h0.out (fun h => h1 h.1)
        clear hd hr h0 hbl
        go_wp2_with fail
        refine wp_region_quiet_below (by kernel_rfl) (by kernel_rfl) ?_
        repeat (go_big_quiet_step (fail))
        refine wpQuiet_nil ?_
        intro _ hw'
        obtain ⟨⟨dq, osq⟩, hw''⟩ := hw'
        have hb := below_regrown wr dq osq
        subst hw''
        generalize grow (redrawn wr dq) osq = w5 at hb ⊢
        replace a0 := a0.below hb
        replace a2 := a2.below hb
        replace hS := hS.below hb
        replace hB := hB.trans (hb.mono hB.size)
        clear hb q0 q1 q2 c0
        go_wp2_with fail
        exact ⟨⟨j + 1, by omega, by go_num, HS, a0, a2, hS, hB⟩, by simp [intOf]; omega⟩
    · obtain rfl : j = n := by omega
      have h := h0.out
      rw [List.take_of_length_le (by rw [HN.out]; omega), hR.out] at h
      subst h
      clear h0 HN HM hS a0 a2 hR
      go_wp2_with fail
      go_ret
      exact ⟨rfl, hB⟩

set_option maxHeartbeats 4000000 in
theorem svc_ok (c m : Nat → Nat) (p : Pl) (s : Int) (hr : p.r < 4294967296) (w : World) : Calls Try.prog 24 #[.agg (mbc c), .agg (mbc m), .agg p.arr, .int .i64 s] w fun e w' => e = .returned (.bool (svcB c m p s)) ∧ Below w.heap.size w w' := by
  obtain ⟨a0, a1, a2, hB⟩ := three_blk (T0 := 28) (T1 := 29) (T2 := 42) (C0 := mbc c) (C1 := mbc m) (C2 := p.arr) (w := w) rfl
  obtain ⟨R, hR⟩ : ∃ R, Hid (svcB c m p s = R) := ⟨_, rfl⟩
  rw [hR.out]
  have HR : Hid (p.r < 4294967296) := hr
  obtain ⟨t, ht⟩ : ∃ t, isM m p.f = t := ⟨_, rfl⟩
  have HT : Hid (isM m p.f = t) := ht
  have pM := isMember_ok m p.f
  rw [ht] at pM
  clear ht hr
  go_enter Try.func24, Try.ntmps24
  go_upto_region 1 with fail
  generalize ((w.alloc (Obj.cells (mbc c) 28)).alloc (Obj.cells (mbc m) 29)).alloc (Obj.cells p.arr 42) = W at a0 a1 a2 hB ⊢
  have q1 : ∀ d' os, (grow (redrawn W d') os).cell? ⟨w.heap.size + 1 + 1, 0, none⟩ = some (.int .u32 (p.r : Int)) := cell_regrown (a2.cell 0 _ rfl)
  have q2 : ∀ d' os, (grow (redrawn W d') os).cell? ⟨w.heap.size + 1 + 1, 1, none⟩ = some (.int .i64 p.f) := cell_regrown (a2.cell 1 _ rfl)
  have qm := a1.regrown
  have p0 : ∀ d' os, Calls Try.prog 32 #[.agg (mbc m), .int .i64 p.f] (grow (redrawn W d') os) fun e w'' => e = .returned (.bool t) ∧ ∃ p : Regrown, w'' = grow (redrawn W p.d) p.os := fun d' os => Calls.regrown_of (pM _)
  clear pM
  cases t with
  | false =>
    obtain rfl : R = false := by rw [← hR.out, svcB, inB, HT.out]; rfl
    clear HT HR
    refine wp_region_quiet_below (by kernel_rfl) (by kernel_rfl) ?_
    repeat (first
      | (go_big_quiet_want; refine quiet_load rfl rfl qm Try.underlying29 rfl sizeMb ?_; simp only [Act.put, List.setIfInBounds_toArray, List.set_cons_zero, List.set_cons_succ]; go_big_quiet_on)
      | go_big_quiet_step (with_reducible exact p0 _ _))
    refine wpQuiet_nil ?_
    intro _ hw'
    obtain ⟨⟨dq, osq⟩, hw''⟩ := hw'
    have hb := below_regrown W dq osq
    subst hw''
    generalize grow (redrawn W dq) osq = w5 at hb ⊢
    replace a0 := a0.below hb
    replace a1 := a1.below hb
    replace a2 := a2.below hb
    replace hB := hB.trans (hb.mono hB.size)
    clear hb q1 q2 p0 qm
    clear a0 a1 a2 hR
    go_wp2_with fail
    go_ret
    exact ⟨rfl, hB⟩
  | true =>
    by_cases hr0 : p.r = 0
    · have g0 : ((p.r : Int) == 0) = true := by simp [hr0]
      obtain rfl : R = false := by rw [← hR.out, svcB, inB, hr0]; simp
      clear HT HR hr0
      refine wp_region_quiet_below (by kernel_rfl) (by kernel_rfl) ?_
      repeat (first
        | (go_big_quiet_want; refine quiet_load rfl rfl qm Try.underlying29 rfl sizeMb ?_; simp only [Act.put, List.setIfInBounds_toArray, List.set_cons_zero, List.set_cons_succ]; go_big_quiet_on)
        | go_big_quiet_step (with_reducible exact p0 _ _))
      refine wpQuiet_nil ?_
      intro _ hw'
      obtain ⟨⟨dq, osq⟩, hw''⟩ := hw'
      have hb := below_regrown W dq osq
      subst hw''
      generalize grow (redrawn W dq) osq = w5 at hb ⊢
      replace a0 := a0.below hb
      replace a1 := a1.below hb
      replace a2 := a2.below hb
      replace hB := hB.trans (hb.mono hB.size)
      clear hb q1 q2 p0 qm
      clear g0
      clear a0 a1 a2 hR
      go_wp2_with fail
      go_ret
      exact ⟨rfl, hB⟩
    · have g0 : ((p.r : Int) == 0) = false := by rw [beq_eq_false_iff_ne]; omega
      obtain ⟨d, hf, hd⟩ := (isM_iff m p.f).1 HT.out
      obtain ⟨hd8, _⟩ := (mem_lst m d).1 hd
      have d0 : (d : Int) < 8 := by omega
      have d1 : (0 : Int) ≤ (d : Int) := by omega
      have q0 : ∀ d' os, (grow (redrawn W d') os).cell? ⟨w.heap.size, d, none⟩ = some (.int .u32 (c d : Int)) := cell_regrown (a0.cell d _ (mbc_get c d hd8))
      rw [hf] at q2 p0 HT
      by_cases h1 : c d < p.r
      · have g1 : decide (c d < p.r) = true := by simpa using h1
        obtain rfl : R = false := by rw [← hR.out, svcB, inB, hf, Int.toNat_natCast]; simp; omega
        clear HT HR hr0 hd h1 hf
        refine wp_region_quiet_below (by kernel_rfl) (by kernel_rfl) ?_
        repeat (first
          | (go_big_quiet_want; refine quiet_load rfl rfl qm Try.underlying29 rfl sizeMb ?_; simp only [Act.put, List.setIfInBounds_toArray, List.set_cons_zero, List.set_cons_succ]; go_big_quiet_on)
          | go_big_quiet_step (with_reducible exact p0 _ _))
        refine wpQuiet_nil ?_
        intro _ hw'
        obtain ⟨⟨dq, osq⟩, hw''⟩ := hw'
        have hb := below_regrown W dq osq
        subst hw''
        generalize grow (redrawn W dq) osq = w5 at hb ⊢
        replace a0 := a0.below hb
        replace a1 := a1.below hb
        replace a2 := a2.below hb
        replace hB := hB.trans (hb.mono hB.size)
        clear hb q1 q2 p0 qm
        clear g0 g1 q0
        clear a0 a1 a2 hR
        go_wp2_with fail
        go_ret
        exact ⟨rfl, hB⟩
      · have g1 : decide (c d < p.r) = false := by simpa using h1
        rw [← hf] at HT
        refine wp_region_quiet_below (by kernel_rfl) (by kernel_rfl) ?_
        repeat (first
          | (go_big_quiet_want; refine quiet_load rfl rfl qm Try.underlying29 rfl sizeMb ?_; simp only [Act.put, List.setIfInBounds_toArray, List.set_cons_zero, List.set_cons_succ]; go_big_quiet_on)
          | go_big_quiet_step (with_reducible exact p0 _ _))
        refine wpQuiet_nil ?_
        intro _ hw'
        obtain ⟨⟨dq, osq⟩, hw''⟩ := hw'
        have hb := below_regrown W dq osq
        subst hw''
        generalize grow (redrawn W dq) osq = w5 at hb ⊢
        replace a0 := a0.below hb
        replace a1 := a1.below hb
        replace a2 := a2.below hb
        replace hB := hB.trans (hb.mono hB.size)
        clear hb q1 q2 p0 qm
        have hin : inB c m p = true := by rw [inB, HT.out, hf, Int.toNat_natCast]; simp; omega
        have hK : kindB c m p s = R := by rw [← hR.out, svcB, hin, Bool.true_and]
        have hw : IntKind.u32.wrap ((p.r : Int) - 1) = (p.r : Int) - 1 := by have := HR.out; rw [IntKind.wrap_u32]; omega
        obtain ⟨q, hq⟩ : ∃ q, leastC c m = q := ⟨_, rfl⟩
        obtain ⟨A, hA⟩ : ∃ A, decide (p.r - 1 ≤ q) = A := ⟨_, rfl⟩
        have hA' : decide ((p.r : Int) - 1 ≤ (q : Int)) = A := by rw [← hA, decide_eq_decide]; omega
        unfold kindB at hK
        rw [hq, hA] at hK
        have pL := cleast_ok c m
        rw [hq] at pL
        generalize (!(lst m).isEmpty) = y at pL
        clear hin hR HT HR hq hA g0 g1 hr0 hd d0 d1 q0 h1
        go_wp2_with (first | refine load_blk rfl 28 _ rfl a0 rfl Try.underlying28 rfl sizeCt ?_ | refine load_blk rfl 29 _ rfl a1 rfl Try.underlying29 rfl sizeMb ?_)
        refine (pL _).mono ?_
        rintro r w1 ⟨rfl, hb⟩
        replace a0 := a0.below hb
        replace a1 := a1.below hb
        replace a2 := a2.below hb
        replace hB := hB.trans (hb.mono hB.size)
        clear hb pL
        have q1 := a2.cell 0 (.int .u32 (p.r : Int)) rfl
        go_upto_region 5 with fail
        clear hA' hw
        by_cases s0 : s = 0
        · subst s0
          rw [if_pos rfl] at hK
          subst hK
          go_wp2_with fail
          go_ret
          exact ⟨rfl, hB⟩
        · have s0' : (s == 0) = false := by rw [beq_eq_false_iff_ne]; exact s0
          rw [if_neg s0] at hK
          by_cases s1 : s = 1
          · subst s1
            rw [if_pos rfl] at hK
            subst hK
            go_wp2_with fail
            go_ret
            exact ⟨rfl, hB⟩
          · have s1' : (s == 1) = false := by rw [beq_eq_false_iff_ne]; exact s1
            rw [if_neg s1] at hK
            by_cases s2 : s = 2
            · subst s2
              rw [if_pos rfl] at hK
              cases A with
              | false =>
                obtain rfl : R = false := by rw [← hK]; rfl
                clear hK
                go_wp2_with fail
                go_ret
                exact ⟨rfl, hB⟩
              | true =>
                have pW := lower_ok c m p
                rw [Bool.true_and] at hK
                rw [hK] at pW
                clear hK
                go_wp2_with (first | refine load_want rfl 28 _ rfl a0 rfl Try.underlying28 rfl sizeCt ?_ | refine load_want rfl 29 _ rfl a1 rfl Try.underlying29 rfl sizeMb ?_ | refine load_want rfl 42 _ rfl a2 rfl Try.underlying42 rfl p.size ?_)
                refine (pW _).mono ?_
                rintro r w2 ⟨rfl, hb⟩
                replace hB := hB.trans (hb.mono hB.size)
                clear hb pW a0 a1 a2 q1
                go_wp2_with fail
                go_ret
                exact ⟨rfl, hB⟩
            · have s2' : (s == 2) = false := by rw [beq_eq_false_iff_ne]; exact s2
              rw [if_neg s2] at hK
              by_cases s3 : s = 3
              · subst s3
                rw [if_pos rfl] at hK
                subst hK
                go_wp2_with fail
                go_ret
                exact ⟨rfl, hB⟩
              · have s3' : (s == 3) = false := by rw [beq_eq_false_iff_ne]; exact s3
                rw [if_neg s3] at hK
                subst hK
                clear s0 s1 s2 s3
                go_wp2_with fail
                go_ret
                exact ⟨rfl, hB⟩

end Go.Proofs.Ytmnpbjaofemelaa
