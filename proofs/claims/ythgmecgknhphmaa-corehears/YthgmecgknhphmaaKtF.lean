/-
  The document's Take: what is kept, the counts, and whether the frame was taken.
  Conditions: what is kept takes no more bytes than a list may.
-/
import Derived.Test.YthgmecgknhphmaaKtE
namespace Go.Proofs.Ythgmecgknhphmaa
set_option maxRecDepth 10000
set_option linter.unusedSimpArgs false
open Go.RowKit Go.Sort
set_option linter.unusedVariables false

theorem Blk.under {A B : Nat} {C : Array Value} {T : TypeId} {w w' : World} (h : Blk A C T w) (hb : Below B w w') (hA : A < B) : Blk A C T w' := (hb.block A hA).trans h

set_option maxHeartbeats 8000000 in
theorem rtake_no (L : List Kt) (la : Option Addr) (lc : Nat) (c m : Nat → Nat) (x : Kt) (hc : ∀ i, c i < 4294967296) (ht : takesB c m x = false) (w : World) (lS : Li Kt.vals 0 la L w) :
    Calls Try.prog 40 #[.slice la L.length lc, .agg (mbc c), .agg (mbc m), .agg x.arr] w fun e w' => Took L c false 0 e w' ∧ Below w.heap.size w w' := by
  obtain ⟨a0, a1, a2, res, hB⟩ := four_blk (T0 := 29) (T1 := 28) (T2 := 64) (T3 := 29) (C0 := mbc c) (C1 := mbc m) (C2 := x.arr) (C3 := mbc noMb) (w := w) rfl
  go_enter Try.func40, Try.ntmps40
  go_upto_region 1 with (first | refine alloc_zero zeroCt rfl rfl ?_)
  try simp only [Act.put, List.setIfInBounds_toArray, List.set_cons_zero, List.set_cons_succ]
  try simp only [alloc_size]
  generalize (((w.alloc (Obj.cells (mbc c) 29)).alloc (Obj.cells (mbc m) 28)).alloc (Obj.cells x.arr 64)).alloc (Obj.cells (mbc noMb) 29) = W at a0 a1 a2 res hB ⊢
  have lm := a1.regrown
  have q0 : ∀ d' os, (grow (redrawn W d') os).cell? ⟨(w.heap.size + 1 + 1), 0, none⟩ = some (.int .i64 x.fr) := cell_regrown (a2.cell 0 _ x.get0)
  have q1 : ∀ d' os, (grow (redrawn W d') os).cell? ⟨(w.heap.size + 1 + 1), 1, none⟩ = some (.int .u32 (x.rd : Int)) := cell_regrown (a2.cell 1 _ x.get1)
  by_cases hM : isM m x.fr = true
  · have pM := is_ok m x.fr
    rw [hM] at pM
    obtain ⟨d, hd, hdm⟩ := (isM_iff m x.fr).1 hM
    obtain ⟨hd8, _⟩ := (mem_lst m d).1 hdm
    have hne : ¬ x.rd = c d + 1 := by
      rw [takesB, hM, Bool.true_and] at ht
      rw [hd, Int.toNat_natCast] at ht
      simpa using ht
    rw [hd] at pM q0
    have q2 : ∀ d' os, (grow (redrawn W d') os).cell? ⟨w.heap.size, d, none⟩ = some (.int .u32 (c d : Int)) := cell_regrown (a0.cell d _ (mbc_get c d hd8))
    have d0 : (d : Int) < 8 := by omega
    have d1 : (0 : Int) ≤ (d : Int) := by omega
    have hcd := hc d
    have hxl := x.lt
    have g0 : ((x.rd : Int) != (c d : Int) + 1) = true := by rw [bne_iff_ne]; omega
    clear hM hdm hne ht hd
    have r0 : ∀ d' os, Calls Try.prog 76 #[.agg (mbc m), .int .i64 (d : Int)] (grow (redrawn W d') os) fun e w'' => e = .returned (.bool true) ∧ ∃ p : Regrown, w'' = grow (redrawn W p.d) p.os := fun d' os => Calls.regrown_of (pM _)
    clear pM
    refine wp_region_quiet_below (by kernel_rfl) (by kernel_rfl) ?_
    repeat (first
      | (go_big_quiet_want; refine quiet_load rfl rfl lm Try.underlying28 rfl sizeMb ?_; simp only [Act.put, List.setIfInBounds_toArray, List.set_cons_zero, List.set_cons_succ]; go_big_quiet_on)
      | go_big_quiet_step (first | with_reducible exact r0 _ _))
    refine wpQuiet_nil ?_
    intro _ hw'
    obtain ⟨⟨dq, osq⟩, hw''⟩ := hw'
    have hb := below_regrown W dq osq
    subst hw''
    generalize grow (redrawn W dq) osq = w1 at hb ⊢
    replace a0 := a0.below hb
    replace a1 := a1.below hb
    replace a2 := a2.below hb
    replace res := res.below hb
    replace hB := hB.trans (hb.mono hB.size)
    clear hb
    clear q0 q1 q2 lm r0
    go_upto_region 2 with fail
    try simp only [Act.put]
    replace hB := hB.drew
    replace res := res.drew
    refine wp_region_held_drew (S := fun w' => Blk w.heap.size (mbc c) 29 w') (by kernel_rfl) a0.drew (fun hHeld => ?_)
    refine tkH 0 (v := ?v1) rfl (by kernel_rfl) (fun _ _ _ h => h) (Or.inl ⟨by rfl, ?hy1⟩) hHeld ?rest1
    case hy1 => (intro w hSw; clear hSw; go_simp; try with_reducible rfl)
    try simp only [List.getElem_toArray, List.getElem_cons_succ, List.getElem_cons_zero, Act.put, List.setIfInBounds_toArray, List.set_cons_succ, List.set_cons_zero]
    refine' tkH 1 (v := _) rfl (by kernel_rfl) (fun _ _ _ h => h) (yieldsIf_load_mid (by rfl) _ _ rfl w.heap.size 0 rfl (mbc c).toList _ ?hS2 Try.underlying29 rfl sizeCt) hHeld ?rest2
    case hS2 => exact fun w h => h.whole
    try simp only [List.getElem_toArray, List.getElem_cons_succ, List.getElem_cons_zero, Act.put, List.setIfInBounds_toArray, List.set_cons_succ, List.set_cons_zero]
    refine tkH 2 (v := ?v3) rfl (by kernel_rfl) (fun _ _ _ h => h) (Or.inl ⟨by rfl, ?hy3⟩) hHeld ?rest3
    case hy3 => (intro w hSw; clear hSw; go_simp; try with_reducible rfl)
    try simp only [List.getElem_toArray, List.getElem_cons_succ, List.getElem_cons_zero, Act.put, List.setIfInBounds_toArray, List.set_cons_succ, List.set_cons_zero]
    refine wpAnyH_ready (rs := [3]) (by kernel_rfl) (by simp) ?_
    refine AllReadyH.cons rfl (fun K hK => ?_) (AllReadyH.nil)
    rw [if_pos (by rfl)]
    refine wp_store_all 29 _ _ rfl (cells := mbc c) res rfl rfl sizeCt rfl (mbc_one _) ?_
    intro u hn hk
    replace hB := hB.trans (hk.below1 (by omega) hB.size)
    refine hK.out _ _ (hHeld.kp1 hk (by omega)) (fun hHeld => ?_)
    clear hK K hk
    try simp only [List.getElem_toArray, List.getElem_cons_succ, List.getElem_cons_zero, Act.put, List.setIfInBounds_toArray, List.set_cons_succ, List.set_cons_zero]
    refine tkH 4 (v := ?v4) rfl (by kernel_rfl) (fun _ _ _ h => h) (Or.inl ⟨by rfl, ?hy4⟩) hHeld ?rest4
    case hy4 => (intro w hSw; clear hSw; go_simp; try with_reducible rfl)
    try simp only [List.getElem_toArray, List.getElem_cons_succ, List.getElem_cons_zero, Act.put, List.setIfInBounds_toArray, List.set_cons_succ, List.set_cons_zero]
    refine wpAnyH_done (by kernel_rfl) ?_ _
    go_wp2_with fail
    refine bodyPost_ret (w := u) (v := .tuple #[.slice la L.length lc, .agg (mbc c), .bool false]) ?_ rfl ⟨⟨la, lc, rfl, lS.below hB⟩, hB⟩
    exact ret_tct rfl rfl hn Try.underlying29 rfl sizeCt rfl rfl
  · have hM : isM m x.fr = false := by simpa using hM
    have pM := is_ok m x.fr
    rw [hM] at pM
    clear hM ht
    have r0 : ∀ d' os, Calls Try.prog 76 #[.agg (mbc m), .int .i64 x.fr] (grow (redrawn W d') os) fun e w'' => e = .returned (.bool false) ∧ ∃ p : Regrown, w'' = grow (redrawn W p.d) p.os := fun d' os => Calls.regrown_of (pM _)
    clear pM
    refine wp_region_quiet_below (by kernel_rfl) (by kernel_rfl) ?_
    repeat (first
      | (go_big_quiet_want; refine quiet_load rfl rfl lm Try.underlying28 rfl sizeMb ?_; simp only [Act.put, List.setIfInBounds_toArray, List.set_cons_zero, List.set_cons_succ]; go_big_quiet_on)
      | go_big_quiet_step (first | with_reducible exact r0 _ _))
    refine wpQuiet_nil ?_
    intro _ hw'
    obtain ⟨⟨dq, osq⟩, hw''⟩ := hw'
    have hb := below_regrown W dq osq
    subst hw''
    generalize grow (redrawn W dq) osq = w1 at hb ⊢
    replace a0 := a0.below hb
    replace a1 := a1.below hb
    replace a2 := a2.below hb
    replace res := res.below hb
    replace hB := hB.trans (hb.mono hB.size)
    clear hb
    clear q0 q1 lm r0
    go_upto_region 2 with fail
    try simp only [Act.put]
    replace hB := hB.drew
    replace res := res.drew
    refine wp_region_held_drew (S := fun w' => Blk w.heap.size (mbc c) 29 w') (by kernel_rfl) a0.drew (fun hHeld => ?_)
    refine tkH 0 (v := ?v5) rfl (by kernel_rfl) (fun _ _ _ h => h) (Or.inl ⟨by rfl, ?hy5⟩) hHeld ?rest5
    case hy5 => (intro w hSw; clear hSw; go_simp; try with_reducible rfl)
    try simp only [List.getElem_toArray, List.getElem_cons_succ, List.getElem_cons_zero, Act.put, List.setIfInBounds_toArray, List.set_cons_succ, List.set_cons_zero]
    refine' tkH 1 (v := _) rfl (by kernel_rfl) (fun _ _ _ h => h) (yieldsIf_load_mid (by rfl) _ _ rfl w.heap.size 0 rfl (mbc c).toList _ ?hS6 Try.underlying29 rfl sizeCt) hHeld ?rest6
    case hS6 => exact fun w h => h.whole
    try simp only [List.getElem_toArray, List.getElem_cons_succ, List.getElem_cons_zero, Act.put, List.setIfInBounds_toArray, List.set_cons_succ, List.set_cons_zero]
    refine tkH 2 (v := ?v7) rfl (by kernel_rfl) (fun _ _ _ h => h) (Or.inl ⟨by rfl, ?hy7⟩) hHeld ?rest7
    case hy7 => (intro w hSw; clear hSw; go_simp; try with_reducible rfl)
    try simp only [List.getElem_toArray, List.getElem_cons_succ, List.getElem_cons_zero, Act.put, List.setIfInBounds_toArray, List.set_cons_succ, List.set_cons_zero]
    refine wpAnyH_ready (rs := [3]) (by kernel_rfl) (by simp) ?_
    refine AllReadyH.cons rfl (fun K hK => ?_) (AllReadyH.nil)
    rw [if_pos (by rfl)]
    refine wp_store_all 29 _ _ rfl (cells := mbc c) res rfl rfl sizeCt rfl (mbc_one _) ?_
    intro u hn hk
    replace hB := hB.trans (hk.below1 (by omega) hB.size)
    refine hK.out _ _ (hHeld.kp1 hk (by omega)) (fun hHeld => ?_)
    clear hK K hk
    try simp only [List.getElem_toArray, List.getElem_cons_succ, List.getElem_cons_zero, Act.put, List.setIfInBounds_toArray, List.set_cons_succ, List.set_cons_zero]
    refine tkH 4 (v := ?v8) rfl (by kernel_rfl) (fun _ _ _ h => h) (Or.inl ⟨by rfl, ?hy8⟩) hHeld ?rest8
    case hy8 => (intro w hSw; clear hSw; go_simp; try with_reducible rfl)
    try simp only [List.getElem_toArray, List.getElem_cons_succ, List.getElem_cons_zero, Act.put, List.setIfInBounds_toArray, List.set_cons_succ, List.set_cons_zero]
    refine wpAnyH_done (by kernel_rfl) ?_ _
    go_wp2_with fail
    refine bodyPost_ret (w := u) (v := .tuple #[.slice la L.length lc, .agg (mbc c), .bool false]) ?_ rfl ⟨⟨la, lc, rfl, lS.below hB⟩, hB⟩
    exact ret_tct rfl rfl hn Try.underlying29 rfl sizeCt rfl rfl

set_option maxHeartbeats 8000000 in
theorem rtake_yes (L : List Kt) (la : Option Addr) (lc : Nat) (c m : Nat → Nat) (x : Kt) (hc : ∀ i, c i < 4294967296) (hl : (L.length + 1) * 352 ≤ 140737488355328) (ht : takesB c m x = true) (w : World) (lS : Li Kt.vals 0 la L w) :
    Calls Try.prog 40 #[.slice la L.length lc, .agg (mbc c), .agg (mbc m), .agg x.arr] w fun e w' => Took (takeL L x) (takeC c x) true w.heap.size e w' ∧ Below w.heap.size w w' := by
  obtain ⟨iI, zI, hI, hz0, hsz, hby, hzs⟩ := infoKt
  obtain ⟨a0, a1, a2, res, hB⟩ := four_blk (T0 := 29) (T1 := 28) (T2 := 64) (T3 := 29) (C0 := mbc c) (C1 := mbc m) (C2 := x.arr) (C3 := mbc noMb) (w := w) rfl
  go_enter Try.func40, Try.ntmps40
  go_upto_region 1 with (first | refine alloc_zero zeroCt rfl rfl ?_)
  try simp only [Act.put, List.setIfInBounds_toArray, List.set_cons_zero, List.set_cons_succ]
  try simp only [alloc_size]
  generalize (((w.alloc (Obj.cells (mbc c) 29)).alloc (Obj.cells (mbc m) 28)).alloc (Obj.cells x.arr 64)).alloc (Obj.cells (mbc noMb) 29) = W at a0 a1 a2 res hB ⊢
  have lm := a1.regrown
  have q0 : ∀ d' os, (grow (redrawn W d') os).cell? ⟨(w.heap.size + 1 + 1), 0, none⟩ = some (.int .i64 x.fr) := cell_regrown (a2.cell 0 _ x.get0)
  have q1 : ∀ d' os, (grow (redrawn W d') os).cell? ⟨(w.heap.size + 1 + 1), 1, none⟩ = some (.int .u32 (x.rd : Int)) := cell_regrown (a2.cell 1 _ x.get1)
  obtain ⟨d, hd, hd8, hdm, hrd⟩ := (takesB_iff c m x).1 ht
  have pM := is_ok m x.fr
  rw [(isM_iff m x.fr).2 ⟨d, hd, (mem_lst m d).2 ⟨hd8, hdm⟩⟩] at pM
  rw [hd] at pM q0
  have q2 : ∀ d' os, (grow (redrawn W d') os).cell? ⟨w.heap.size, d, none⟩ = some (.int .u32 (c d : Int)) := cell_regrown (a0.cell d _ (mbc_get c d hd8))
  have d0 : (d : Int) < 8 := by omega
  have d1 : (0 : Int) ≤ (d : Int) := by omega
  have hcd := hc d
  have hxl := x.lt
  have g0 : ((x.rd : Int) != (c d : Int) + 1) = false := by rw [bne_eq_false_iff_eq]; omega
  have hset : (mbc c).setIfInBounds d (.int .u32 (x.rd : Int)) = mbc (takeC c x) := by rw [mbc_put c d x.rd hd8, takeC, hd, Int.toNat_natCast]
  have HD : Hid (x.fr = (d : Int)) := hd
  clear ht hdm hrd hd
  have r0 : ∀ d' os, Calls Try.prog 76 #[.agg (mbc m), .int .i64 (d : Int)] (grow (redrawn W d') os) fun e w'' => e = .returned (.bool true) ∧ ∃ p : Regrown, w'' = grow (redrawn W p.d) p.os := fun d' os => Calls.regrown_of (pM _)
  clear pM
  refine wp_region_quiet_below (by kernel_rfl) (by kernel_rfl) ?_
  repeat (first
    | (go_big_quiet_want; refine quiet_load rfl rfl lm Try.underlying28 rfl sizeMb ?_; simp only [Act.put, List.setIfInBounds_toArray, List.set_cons_zero, List.set_cons_succ]; go_big_quiet_on)
    | go_big_quiet_step (first | with_reducible exact r0 _ _))
  refine wpQuiet_nil ?_
  intro _ hw'
  obtain ⟨⟨dq, osq⟩, hw''⟩ := hw'
  have hb := below_regrown W dq osq
  subst hw''
  generalize grow (redrawn W dq) osq = w1 at hb ⊢
  replace a0 := a0.below hb
  replace a1 := a1.below hb
  replace a2 := a2.below hb
  replace res := res.below hb
  replace hB := hB.trans (hb.mono hB.size)
  clear hb
  clear q0 q1 q2 lm r0 g0 hcd hxl
  obtain ⟨N, hN⟩ : ∃ N, Hid (L.length = N) := ⟨_, rfl⟩
  rw [hN.out] at hl ⊢
  have hb1 := blk_new w1 #[] 64
  have hbx : Below w1.heap.size w1 (w1.alloc (.cells #[] 64)) := below_box w1 _
  have hr1 := res.lt
  have hg : Lg Kt.vals 38 64 w1.heap.size (some ⟨w1.heap.size, 0, none⟩) 0 [] (w1.alloc (.cells #[] 64)) := Lg.of (Ow.empty hb1) (Nat.le_refl _)
  replace a0 := a0.below hbx
  replace a2 := a2.below hbx
  replace res := res.below hbx
  have hw1 : w.heap.size ≤ w1.heap.size := hB.size
  replace hB := hB.trans (hbx.mono hB.size)
  have s0 := hbx.size
  clear hb1 hbx a1
  go_wp2_with (refine box_no rfl rfl ?_)
  generalize w1.heap.size = B1 at *
  go_loopw [11, 12] (fun lv iv wr => ∃ (j p cap : Nat) (ad : Option Addr), j ≤ N ∧ p ≤ j ∧ iv = .int .i64 j ∧ lv = .slice ad p cap ∧ Hid ((young x (L.take j)).length = p) ∧ Lg Kt.vals 38 64 B1 ad cap (young x (L.take j)) wr ∧ Blk w.heap.size (mbc c) 29 wr ∧ Blk (w.heap.size + 1 + 1) x.arr 64 wr ∧ Blk (w.heap.size + 1 + 1 + 1) (mbc noMb) 29 wr ∧ Below w.heap.size w wr ∧ B1 ≤ wr.heap.size) (fun _ iv _ => N - (intOf iv).toNat)
  case atStart => exact ⟨0, 0, 0, _, by omega, by omega, rfl, rfl, rfl, hg, a0, a2, res, hB, s0⟩
  case round =>
    clear hg a0 a2 res hB s0
    obtain ⟨j, p, cap, ad, hj, hp, rfl, rfl, HP, hg, a0, a2, res, hB, s0⟩ := hrel
    by_cases hjn : j < N
    · have j0 : (j : Int) < (N : Int) := by omega
      have j1 : (0 : Int) ≤ (j : Int) := by omega
      obtain ⟨k, hk⟩ : ∃ k, L[j]? = some k := ⟨_, List.getElem?_eq_getElem (by rw [hN.out]; exact hjn)⟩
      obtain ⟨b, o, rfl, _, hbl, hr⟩ := lS.at Kt.vals_length j k hk
      replace hr := fun (u : World) (h : Below w.heap.size w u) => range_block hr (h.block b hbl)
      have hr0 := hr wr hB
      have q0 : ∀ d' os, (grow (redrawn wr d') os).cell? ⟨(w.heap.size + 1 + 1), 0, none⟩ = some (.int .i64 x.fr) := cell_regrown (a2.cell 0 _ x.get0)
      have q1 : ∀ d' os, (grow (redrawn wr d') os).cell? ⟨(w.heap.size + 1 + 1), 1, none⟩ = some (.int .u32 (x.rd : Int)) := cell_regrown (a2.cell 1 _ x.get1)
      have q2 : ∀ d' os, (grow (redrawn wr d') os).cell? ⟨b, o + j * 38, none⟩ = some (.int .i64 k.fr) := cell_regrown (by have := hr0 0 _ rfl; simpa using this)
      have q3 : ∀ d' os, (grow (redrawn wr d') os).cell? ⟨b, o + j * 38 + 1, none⟩ = some (.int .u32 (k.rd : Int)) := cell_regrown (hr0 1 _ rfl)
      have hkl := k.lt
      have hxl := x.lt
      obtain ⟨t, ht⟩ : ∃ t, oldB x k = t := ⟨_, rfl⟩
      obtain ⟨g, hgt⟩ : ∃ g, (k.fr != x.fr) = g := ⟨_, rfl⟩
      obtain ⟨v, hv⟩ : ∃ v, decide ((x.rd : Int) < (k.rd : Int) + 3) = v := ⟨_, rfl⟩
      have HO : Hid (oldB x k = t) := ht
      have htg : t = (!(g || v)) := by
        rw [← ht, ← hgt, ← hv, oldB]
        by_cases hf : k.fr = x.fr
        · by_cases hr : k.rd + 3 ≤ x.rd
          · have h3 : ¬ ((x.rd : Int) < (k.rd : Int) + 3) := by omega
            simp [hf, hr, h3]
          · have h3 : (x.rd : Int) < (k.rd : Int) + 3 := by omega
            simp [hf, hr, h3]
        · simp [hf]
      clear ht hr0
      cases g with
      | true =>
        obtain rfl : t = false := by simpa using htg
        clear htg hv
        go_upto_region 7 with fail
        try simp only [Act.put]
        have hst := young_no x k L j hk HO.out
        have HP2 : Hid ((young x (L.take (j + 1))).length = p + 1) := by
          show (young x (L.take (j + 1))).length = p + 1
          rw [hst, List.length_append, HP.out]; rfl
        refine wp_region_quiet_below (by kernel_rfl) (by kernel_rfl) ?_
        repeat (first
          | go_big_quiet_step (fail))
        refine wpQuiet_nil ?_
        intro _ hw'
        obtain ⟨⟨dq, osq⟩, hw''⟩ := hw'
        have hb := below_regrown wr dq osq
        subst hw''
        generalize grow (redrawn wr dq) osq = w2 at hb ⊢
        have sz := hb.size
        replace a0 := a0.below hb
        replace a2 := a2.below hb
        replace res := res.below hb
        replace hg := hg.below hb
        replace hB := hB.trans (hb.mono hB.size)
        clear hb
        replace s0 := Nat.le_trans s0 sz
        have hr2 := hr w2 hB
        have hb1 : Below B1 w2 (w2.alloc (.cells k.arr 64)) := (below_box w2 _).mono s0
        have hg2 := hg.below (below_box w2 (.cells k.arr 64))
        have hx := (li_box (f := Kt.vals) w2 k 64 0 (Nat.zero_le _)).src (P := Try.prog) Kt.vals_length Kt.vals_one Try.underlying30 1
        have hs2 : B1 ≤ (w2.alloc (.cells k.arr 64)).heap.size := by simp; omega
        have HN := HP.out
        have hlb : (p + [k].length) * 352 ≤ 140737488355328 := by simp only [List.length_cons, List.length_nil]; omega
        have hl63 : p + [k].length ≤ maxLen := by simp only [List.length_cons, List.length_nil, maxLen]; omega
        clear q0 q1 q2 q3 HP HO hk hr hg
        go_wp2_with (first | refine load_range rfl 64 _ rfl k.vals hr2 rfl Try.underlying64 rfl sizeKt ?_ | refine box_kt rfl _ rfl k rfl ?_ | (refine append_lg Kt.vals_length rfl _ _ rfl Try.underlying30 hI hz0 hsz hby hzs hg2 hs2 HN rfl (M := [k]) (by simp) hx rfl hlb hl63 ?_; intro ad' cap' w5 hg5 hb5; rw [← hst] at hg5))
        replace hb5 := hb1.trans hb5
        exact ⟨⟨j + 1, p + 1, cap', ad', by omega, by omega, by go_num, rfl, HP2, hg5, a0.under hb5 (by omega), a2.under hb5 (by omega), res.under hb5 (by omega), hB.trans (hb5.mono hw1), Nat.le_trans s0 hb5.size⟩, by simp [intOf]; omega⟩
      | false =>
        cases v with
        | true =>
          obtain rfl : t = false := by simpa using htg
          clear htg
          go_upto_region 7 with fail
          try simp only [Act.put]
          have hst := young_no x k L j hk HO.out
          have HP2 : Hid ((young x (L.take (j + 1))).length = p + 1) := by
            show (young x (L.take (j + 1))).length = p + 1
            rw [hst, List.length_append, HP.out]; rfl
          refine wp_region_quiet_below (by kernel_rfl) (by kernel_rfl) ?_
          repeat (first
            | go_big_quiet_step (fail))
          refine wpQuiet_nil ?_
          intro _ hw'
          obtain ⟨⟨dq, osq⟩, hw''⟩ := hw'
          have hb := below_regrown wr dq osq
          subst hw''
          generalize grow (redrawn wr dq) osq = w2 at hb ⊢
          have sz := hb.size
          replace a0 := a0.below hb
          replace a2 := a2.below hb
          replace res := res.below hb
          replace hg := hg.below hb
          replace hB := hB.trans (hb.mono hB.size)
          clear hb
          replace s0 := Nat.le_trans s0 sz
          have hr2 := hr w2 hB
          have hb1 : Below B1 w2 (w2.alloc (.cells k.arr 64)) := (below_box w2 _).mono s0
          have hg2 := hg.below (below_box w2 (.cells k.arr 64))
          have hx := (li_box (f := Kt.vals) w2 k 64 0 (Nat.zero_le _)).src (P := Try.prog) Kt.vals_length Kt.vals_one Try.underlying30 1
          have hs2 : B1 ≤ (w2.alloc (.cells k.arr 64)).heap.size := by simp; omega
          have HN := HP.out
          have hlb : (p + [k].length) * 352 ≤ 140737488355328 := by simp only [List.length_cons, List.length_nil]; omega
          have hl63 : p + [k].length ≤ maxLen := by simp only [List.length_cons, List.length_nil, maxLen]; omega
          clear q0 q1 q2 q3 HP HO hk hr hg
          go_wp2_with (first | refine load_range rfl 64 _ rfl k.vals hr2 rfl Try.underlying64 rfl sizeKt ?_ | refine box_kt rfl _ rfl k rfl ?_ | (refine append_lg Kt.vals_length rfl _ _ rfl Try.underlying30 hI hz0 hsz hby hzs hg2 hs2 HN rfl (M := [k]) (by simp) hx rfl hlb hl63 ?_; intro ad' cap' w5 hg5 hb5; rw [← hst] at hg5))
          replace hb5 := hb1.trans hb5
          exact ⟨⟨j + 1, p + 1, cap', ad', by omega, by omega, by go_num, rfl, HP2, hg5, a0.under hb5 (by omega), a2.under hb5 (by omega), res.under hb5 (by omega), hB.trans (hb5.mono hw1), Nat.le_trans s0 hb5.size⟩, by simp [intOf]; omega⟩
        | false =>
          obtain rfl : t = true := by simpa using htg
          have e := young_yes x k L j hk HO.out
          rw [← e] at hg HP
          clear htg e HO hk hr
          go_upto_region 7 with fail
          try simp only [Act.put]
          refine wp_region_quiet_below (by kernel_rfl) (by kernel_rfl) ?_
          repeat (first
            | go_big_quiet_step (fail))
          refine wpQuiet_nil ?_
          intro _ hw'
          obtain ⟨⟨dq, osq⟩, hw''⟩ := hw'
          have hb := below_regrown wr dq osq
          subst hw''
          generalize grow (redrawn wr dq) osq = w2 at hb ⊢
          have sz := hb.size
          replace a0 := a0.below hb
          replace a2 := a2.below hb
          replace res := res.below hb
          replace hg := hg.below hb
          replace hB := hB.trans (hb.mono hB.size)
          clear hb
          replace s0 := Nat.le_trans s0 sz
          clear q0 q1 q2 q3
          go_wp2_with fail
          exact ⟨⟨j + 1, p, cap, ad, by omega, by omega, by go_num, rfl, HP, hg, a0, a2, res, hB, s0⟩, by simp [intOf]; omega⟩
    · obtain rfl : j = N := by omega
      have e : L.take j = L := List.take_of_length_le (by rw [hN.out]; omega)
      rw [e] at hg HP
      have hb1 : Below B1 wr (wr.alloc (.cells x.arr 64)) := (below_box wr _).mono s0
      have hg2 := hg.below (below_box wr (.cells x.arr 64))
      have hx := (li_box (f := Kt.vals) wr x 64 0 (Nat.zero_le _)).src (P := Try.prog) Kt.vals_length Kt.vals_one Try.underlying30 1
      have hs2 : B1 ≤ (wr.alloc (.cells x.arr 64)).heap.size := by simp; omega
      have HN := HP.out
      have hlb : (p + [x].length) * 352 ≤ 140737488355328 := by simp only [List.length_cons, List.length_nil]; omega
      have hl63 : p + [x].length ≤ maxLen := by simp only [List.length_cons, List.length_nil, maxLen]; omega
      have h0B : w.heap.size < B1 := by omega
      have h2B : (w.heap.size + 1 + 1) < B1 := by omega
      have h3B : (w.heap.size + 1 + 1 + 1) < B1 := by omega
      clear hg e HP
      go_upto_region 11 with (first | refine load_blk rfl 64 _ rfl a2 rfl Try.underlying64 rfl sizeKt ?_ | refine box_kt rfl _ rfl x rfl ?_ | (refine append_lg Kt.vals_length rfl _ _ rfl Try.underlying30 hI hz0 hsz hby hzs hg2 hs2 HN rfl (M := [x]) (by simp) hx rfl hlb hl63 ?_; intro ad' cap' w5 hg5 hb5; have a05 := a0.under (hb1.trans hb5) h0B; have r5 := res.under (hb1.trans hb5) h3B; have a25 := a2.under (hb1.trans hb5) h2B; have hB5 := hB.trans ((hb1.trans hb5).mono hw1); have s5 : B1 ≤ w5.heap.size := Nat.le_trans hs2 hb5.size; have p0 := a25.cell 0 _ x.get0; have p1 := a25.cell 1 _ x.get1; rw [HD.out] at p0) | (refine store_one rfl 22 _ _ rfl (off := d) (.int .u32 (x.rd : Int)) a05 rfl rfl rfl rfl sizeU32 (by rw [mbc_size]; omega) ?_; intro w6 b6 k6; rw [hset] at b6))
      try simp only [Act.put]
      replace r5 := r5.kp1 k6 (by omega)
      replace hg5 := hg5.kp k6 (by simp; omega)
      replace hB5 := hB5.trans (k6.below1 (Nat.le_refl _) hB5.size)
      clear hg2 hx a05 a25 a2 res k6 hb1 hb5 p0 p1 a0 hB s0
      have a0 := b6
      have res := r5
      have hB := hB5
      have hg := hg5
      have HY : Hid ((young x L).length = p) := HN
      clear b6 r5 hB5 hg5 HN
      replace hg := hg.below (w' := w6.drew) (Below.refl _ _).drew
      replace hB := hB.drew
      replace res := res.drew
      refine wp_region_held_drew (S := fun w' => Blk w.heap.size (mbc (takeC c x)) 29 w') (by kernel_rfl) a0.drew (fun hHeld => ?_)
      refine tkH 0 (v := ?v9) rfl (by kernel_rfl) (fun _ _ _ h => h) (Or.inl ⟨by rfl, ?hy9⟩) hHeld ?rest9
      case hy9 => (intro w hSw; clear hSw; go_simp; try with_reducible rfl)
      try simp only [List.getElem_toArray, List.getElem_cons_succ, List.getElem_cons_zero, Act.put, List.setIfInBounds_toArray, List.set_cons_succ, List.set_cons_zero]
      refine' tkH 1 (v := _) rfl (by kernel_rfl) (fun _ _ _ h => h) (yieldsIf_load_mid (by rfl) _ _ rfl w.heap.size 0 rfl (mbc (takeC c x)).toList _ ?hS10 Try.underlying29 rfl sizeCt) hHeld ?rest10
      case hS10 => exact fun w h => h.whole
      try simp only [List.getElem_toArray, List.getElem_cons_succ, List.getElem_cons_zero, Act.put, List.setIfInBounds_toArray, List.set_cons_succ, List.set_cons_zero]
      refine tkH 2 (v := ?v11) rfl (by kernel_rfl) (fun _ _ _ h => h) (Or.inl ⟨by rfl, ?hy11⟩) hHeld ?rest11
      case hy11 => (intro w hSw; clear hSw; go_simp; try with_reducible rfl)
      try simp only [List.getElem_toArray, List.getElem_cons_succ, List.getElem_cons_zero, Act.put, List.setIfInBounds_toArray, List.set_cons_succ, List.set_cons_zero]
      refine wpAnyH_ready (rs := [3]) (by kernel_rfl) (by simp) ?_
      refine AllReadyH.cons rfl (fun K hK => ?_) (AllReadyH.nil)
      rw [if_pos (by rfl)]
      refine wp_store_all 29 _ _ rfl (cells := mbc (takeC c x)) res rfl rfl sizeCt rfl (mbc_one _) ?_
      intro u hn hk
      replace hg := hg.kp hk (fun k hm => by rw [List.mem_singleton.1 hm]; exact hr1)
      replace hB := hB.trans (hk.below1 (by omega) hB.size)
      refine hK.out _ _ (hHeld.kp1 hk (by omega)) (fun hHeld => ?_)
      clear hK K hk
      try simp only [List.getElem_toArray, List.getElem_cons_succ, List.getElem_cons_zero, Act.put, List.setIfInBounds_toArray, List.set_cons_succ, List.set_cons_zero]
      refine tkH 4 (v := ?v12) rfl (by kernel_rfl) (fun _ _ _ h => h) (Or.inl ⟨by rfl, ?hy12⟩) hHeld ?rest12
      case hy12 => (intro w hSw; clear hSw; go_simp; try with_reducible rfl)
      try simp only [List.getElem_toArray, List.getElem_cons_succ, List.getElem_cons_zero, Act.put, List.setIfInBounds_toArray, List.set_cons_succ, List.set_cons_zero]
      refine wpAnyH_done (by kernel_rfl) ?_ _
      go_wp2_with fail
      refine bodyPost_ret (w := u) (v := .tuple #[.slice ad' (takeL L x).length cap', .agg (mbc (takeC c x)), .bool true]) ?_ rfl ⟨⟨ad', cap', rfl, hg.li.mono hw1⟩, hB⟩
      exact ret_tct rfl rfl hn Try.underlying29 rfl sizeCt (by rw [show (takeL L x).length = p + 1 from by rw [takeL, List.length_append, HY.out]; rfl]; rfl) rfl

end Go.Proofs.Ythgmecgknhphmaa
