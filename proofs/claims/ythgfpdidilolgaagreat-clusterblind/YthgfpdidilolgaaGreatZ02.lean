/-
  Of the texts beneath these laws, in their order: KtD.
  Each theorem says its own conditions.
-/
import Derived.Test.YthgfpdidilolgaaGreatZ01
import Derived.Test.YthgfpdidilolgaaGreatZ00
namespace Go.Proofs.YthgfpdidilolgaaGreat
set_option maxRecDepth 10000
set_option linter.unusedSimpArgs false
open Go.RowKit Go.Sort
set_option linter.unusedVariables false
def Took (L : List Kt) (c : Nat → Nat) (t : Bool) (B : Nat) (e : Ending) (w' : World) : Prop := ∃ a cp, e = .returned (.tuple #[.slice a L.length cp, .agg (mbc c), .bool t]) ∧ Li Kt.vals B a L w'
set_option maxHeartbeats 8000000 in
theorem take_no (L : List Kt) (la : Option Addr) (lc : Nat) (c m : Nat → Nat) (x : Kt) (hc : ∀ i, c i < 4294967296) (hl : L.length * 352 ≤ 140737488355328) (ht : takesB c m x = false) (w : World) (lS : Li Kt.vals 0 la L w) :
  Calls Tryz.prog 138 #[.slice la L.length lc, .agg (mbc c), .agg (mbc m), .agg x.arr] w fun e w' => Took L c false w.heap.size e w' ∧ Below w.heap.size w w' := by
 obtain ⟨a0, a1, a2, res, hB⟩ := four_blk (T0 := 60) (T1 := 55) (T2 := 53) (T3 := 60) (C0 := mbc c) (C1 := mbc m) (C2 := x.arr) (C3 := mbc noMb) (w := w) rfl
 go_enter Tryz.func138, Tryz.ntmps138
 go_upto_region 1 with (first | refine alloc_zero zeroCt rfl rfl ?_)
 try simp only [Act.put, List.setIfInBounds_toArray, List.set_cons_zero, List.set_cons_succ]
 try simp only [alloc_size]
 generalize (((w.alloc (Obj.cells (mbc c) 60)).alloc (Obj.cells (mbc m) 55)).alloc (Obj.cells x.arr 53)).alloc (Obj.cells (mbc noMb) 60) = W at a0 a1 a2 res hB ⊢
 have lm := a1.regrown
 have q0 : ∀ d' os, (grow (redrawn W d') os).cell? ⟨(w.heap.size + 1 + 1), 0, none⟩ = some (.int .i64 x.fr) := cell_regrown (a2.cell 0 _ x.get0)
 have q1 : ∀ d' os, (grow (redrawn W d') os).cell? ⟨(w.heap.size + 1 + 1), 1, none⟩ = some (.int .u32 (x.rd : Int)) := cell_regrown (a2.cell 1 _ x.get1)
 by_cases hM : isM m x.fr = true
 ·have pM := kmember_ok m x.fr
  rw [hM] at pM
  obtain ⟨d, hd, hdm⟩ := (isM_iff m x.fr).1 hM
  obtain ⟨hd8, _⟩ := (mem_lst m d).1 hdm
  have pN := next_ok (c d) x.rd (hc d) x.lt
  have hne : decide (x.rd = c d + 1) = false := by
   rw [takesB, hM, Bool.true_and] at ht
   rw [hd, Int.toNat_natCast] at ht
   exact ht
  rw [hne] at pN
  rw [hd] at pM q0
  have q2 : ∀ d' os, (grow (redrawn W d') os).cell? ⟨w.heap.size, d, none⟩ = some (.int .u32 (c d : Int)) := cell_regrown (a0.cell d _ (mbc_get c d hd8))
  have d0 : (d : Int) < 8 := by omega
  have d1 : (0 : Int) ≤ (d : Int) := by omega
  clear hM hdm hne ht hd
  have r0 : ∀ d' os, Calls Tryz.prog 171 #[.agg (mbc m), .int .i64 (d : Int)] (grow (redrawn W d') os) fun e w'' => e = .returned (.bool true) ∧ ∃ p : Regrown, w'' = grow (redrawn W p.d) p.os := fun d' os => Calls.regrown_of (pM _)
  have r1 : ∀ d' os, Calls Tryz.prog 172 #[.int .u32 (c d : Int), .int .u32 (x.rd : Int)] (grow (redrawn W d') os) fun e w'' => e = .returned (.bool false) ∧ ∃ p : Regrown, w'' = grow (redrawn W p.d) p.os := fun d' os => (pN _).mono fun e w'' h => ⟨h.1, ⟨d', os⟩, h.2⟩
  clear pM pN
  refine wp_region_quiet_below (by kernel_rfl) (by kernel_rfl) ?_
  repeat (first
   | (go_big_quiet_want; refine quiet_load rfl rfl lm Tryz.underlying55 rfl sizeMb ?_; simp only [Act.put, List.setIfInBounds_toArray, List.set_cons_zero, List.set_cons_succ]; go_big_quiet_on)
   | go_big_quiet_step (first | with_reducible exact r0 _ _ | with_reducible exact r1 _ _))
  refine wpQuiet_nil ?_
  intro _ hw'
  obtain ⟨⟨dq, osq⟩, hw''⟩ := hw'
  have hb := below_regrown W dq osq
  subst hw''
  generalize grow (redrawn W dq) osq = w1 at hb ⊢
  replace a0 := a0.below hb
  replace a1 := a1.below hb
  replace a2 := a2.below hb
  replace res := res.below hb
  replace hB := hB.trans (hb.mono hB.size)
  clear hb
  clear q0 q1 q2 lm r0 r1
  go_upto_region 2 with fail
  try simp only [Act.put, List.setIfInBounds_toArray, List.set_cons_zero, List.set_cons_succ]
  replace hB := hB.drew
  replace res := res.drew
  refine wp_region_held_drew (S := fun w' => Blk w.heap.size (mbc c) 60 w') (by kernel_rfl) a0.drew (fun hHeld => ?_)
  refine tkQ 0 hHeld ?_
  try simp only [yy]
  refine' tkH 2 (v := _) rfl (by kernel_rfl) (fun _ _ _ h => h) (yieldsIf_load_mid (by rfl) _ _ rfl w.heap.size 0 rfl (mbc c).toList _ ?hS14 Tryz.underlying60 rfl sizeCt) hHeld ?_
  case hS14 => exact fun w h => h.whole
  try simp only [yy]
  refine rd1 1 (fun K hK => ?_)
  go_simp
  go_wp2_with (refine (clone_ok L la lc hl _ (lS.below hB)).mono ?_; rintro r u ⟨⟨ad, cap, rfl, cl⟩, hb⟩)
  have hr1 := res.lt
  have hw1 := hB.size
  replace res := res.below hb
  replace hB := hB.trans (hb.mono hB.size)
  refine hK.out _ _ (hHeld.below hb) (fun hHeld => ?_)
  clear hK K hb
  refine tkQ 3 hHeld ?_
  try simp only [yy]
  refine rd1 4 (fun K hK => ?_)
  rw [if_pos (by rfl)]
  refine wp_store_all 60 _ _ rfl (cells := mbc c) res rfl rfl sizeCt rfl (mbc_one _) ?_
  intro u hn hk
  replace cl := cl.kp hk (fun k hm => by rw [List.mem_singleton.1 hm]; exact hr1)
  replace hB := hB.trans (hk.below1 (by omega) hB.size)
  refine hK.out _ _ (hHeld.kp1 hk (by omega)) (fun hHeld => ?_)
  clear hK K hk
  try simp only [yy]
  refine tkQ 5 hHeld ?_
  try simp only [yy]
  refine wpAnyH_done (by kernel_rfl) ?_ _
  go_wp2_with fail
  refine bodyPost_ret (w := u) (v := .tuple #[.slice ad L.length cap, .agg (mbc c), .bool false]) ?_ rfl ⟨⟨ad, cap, rfl, cl.li.mono hw1⟩, hB⟩
  exact ret_tct rfl rfl hn Tryz.underlying60 rfl sizeCt rfl rfl
 ·have hM : isM m x.fr = false := by simpa using hM
  have pM := kmember_ok m x.fr
  rw [hM] at pM
  clear hM ht
  have r0 : ∀ d' os, Calls Tryz.prog 171 #[.agg (mbc m), .int .i64 x.fr] (grow (redrawn W d') os) fun e w'' => e = .returned (.bool false) ∧ ∃ p : Regrown, w'' = grow (redrawn W p.d) p.os := fun d' os => Calls.regrown_of (pM _)
  clear pM
  refine wp_region_quiet_below (by kernel_rfl) (by kernel_rfl) ?_
  repeat (first
   | (go_big_quiet_want; refine quiet_load rfl rfl lm Tryz.underlying55 rfl sizeMb ?_; simp only [Act.put, List.setIfInBounds_toArray, List.set_cons_zero, List.set_cons_succ]; go_big_quiet_on)
   | go_big_quiet_step (first | with_reducible exact r0 _ _))
  refine wpQuiet_nil ?_
  intro _ hw'
  obtain ⟨⟨dq, osq⟩, hw''⟩ := hw'
  have hb := below_regrown W dq osq
  subst hw''
  generalize grow (redrawn W dq) osq = w1 at hb ⊢
  replace a0 := a0.below hb
  replace a1 := a1.below hb
  replace a2 := a2.below hb
  replace res := res.below hb
  replace hB := hB.trans (hb.mono hB.size)
  clear hb
  clear q0 q1 lm r0
  go_upto_region 2 with fail
  try simp only [Act.put, List.setIfInBounds_toArray, List.set_cons_zero, List.set_cons_succ]
  replace hB := hB.drew
  replace res := res.drew
  refine wp_region_held_drew (S := fun w' => Blk w.heap.size (mbc c) 60 w') (by kernel_rfl) a0.drew (fun hHeld => ?_)
  refine tkQ 0 hHeld ?_
  try simp only [yy]
  refine' tkH 2 (v := _) rfl (by kernel_rfl) (fun _ _ _ h => h) (yieldsIf_load_mid (by rfl) _ _ rfl w.heap.size 0 rfl (mbc c).toList _ ?hS18 Tryz.underlying60 rfl sizeCt) hHeld ?_
  case hS18 => exact fun w h => h.whole
  try simp only [yy]
  refine rd1 1 (fun K hK => ?_)
  go_simp
  go_wp2_with (refine (clone_ok L la lc hl _ (lS.below hB)).mono ?_; rintro r u ⟨⟨ad, cap, rfl, cl⟩, hb⟩)
  have hr1 := res.lt
  have hw1 := hB.size
  replace res := res.below hb
  replace hB := hB.trans (hb.mono hB.size)
  refine hK.out _ _ (hHeld.below hb) (fun hHeld => ?_)
  clear hK K hb
  refine tkQ 3 hHeld ?_
  try simp only [yy]
  refine rd1 4 (fun K hK => ?_)
  rw [if_pos (by rfl)]
  refine wp_store_all 60 _ _ rfl (cells := mbc c) res rfl rfl sizeCt rfl (mbc_one _) ?_
  intro u hn hk
  replace cl := cl.kp hk (fun k hm => by rw [List.mem_singleton.1 hm]; exact hr1)
  replace hB := hB.trans (hk.below1 (by omega) hB.size)
  refine hK.out _ _ (hHeld.kp1 hk (by omega)) (fun hHeld => ?_)
  clear hK K hk
  try simp only [yy]
  refine tkQ 5 hHeld ?_
  try simp only [yy]
  refine wpAnyH_done (by kernel_rfl) ?_ _
  go_wp2_with fail
  refine bodyPost_ret (w := u) (v := .tuple #[.slice ad L.length cap, .agg (mbc c), .bool false]) ?_ rfl ⟨⟨ad, cap, rfl, cl.li.mono hw1⟩, hB⟩
  exact ret_tct rfl rfl hn Tryz.underlying60 rfl sizeCt rfl rfl
set_option maxHeartbeats 8000000 in
theorem take_yes (L : List Kt) (la : Option Addr) (lc : Nat) (c m : Nat → Nat) (x : Kt) (hc : ∀ i, c i < 4294967296) (hl : (L.length + 1) * 352 ≤ 140737488355328) (ht : takesB c m x = true) (w : World) (lS : Li Kt.vals 0 la L w) :
  Calls Tryz.prog 138 #[.slice la L.length lc, .agg (mbc c), .agg (mbc m), .agg x.arr] w fun e w' => Took (takeL L x) (takeC c x) true w.heap.size e w' ∧ Below w.heap.size w w' := by
 obtain ⟨iI, zI, hI, hz0, hsz, hby, hzs⟩ := infoKt
 obtain ⟨a0, a1, a2, res, hB⟩ := four_blk (T0 := 60) (T1 := 55) (T2 := 53) (T3 := 60) (C0 := mbc c) (C1 := mbc m) (C2 := x.arr) (C3 := mbc noMb) (w := w) rfl
 go_enter Tryz.func138, Tryz.ntmps138
 go_upto_region 1 with (first | refine alloc_zero zeroCt rfl rfl ?_)
 try simp only [Act.put, List.setIfInBounds_toArray, List.set_cons_zero, List.set_cons_succ]
 try simp only [alloc_size]
 generalize (((w.alloc (Obj.cells (mbc c) 60)).alloc (Obj.cells (mbc m) 55)).alloc (Obj.cells x.arr 53)).alloc (Obj.cells (mbc noMb) 60) = W at a0 a1 a2 res hB ⊢
 have lm := a1.regrown
 have q0 : ∀ d' os, (grow (redrawn W d') os).cell? ⟨(w.heap.size + 1 + 1), 0, none⟩ = some (.int .i64 x.fr) := cell_regrown (a2.cell 0 _ x.get0)
 have q1 : ∀ d' os, (grow (redrawn W d') os).cell? ⟨(w.heap.size + 1 + 1), 1, none⟩ = some (.int .u32 (x.rd : Int)) := cell_regrown (a2.cell 1 _ x.get1)
 obtain ⟨d, hd, hd8, hdm, hrd⟩ := (takesB_iff c m x).1 ht
 have pM := kmember_ok m x.fr
 rw [(isM_iff m x.fr).2 ⟨d, hd, (mem_lst m d).2 ⟨hd8, hdm⟩⟩] at pM
 have pN := next_ok (c d) x.rd (hc d) x.lt
 rw [decide_eq_true hrd] at pN
 rw [hd] at pM q0
 have q2 : ∀ d' os, (grow (redrawn W d') os).cell? ⟨w.heap.size, d, none⟩ = some (.int .u32 (c d : Int)) := cell_regrown (a0.cell d _ (mbc_get c d hd8))
 have hyl := young_le x L
 have hlb : ((young x L).length + [x].length) * 352 ≤ 140737488355328 := by simp only [List.length_cons, List.length_nil]; omega
 have hl63 : (young x L).length + [x].length ≤ maxLen := by simp only [List.length_cons, List.length_nil, maxLen]; omega
 replace hl : L.length * 352 ≤ 140737488355328 := by omega
 have d0 : (d : Int) < 8 := by omega
 have d1 : (0 : Int) ≤ (d : Int) := by omega
 have hset : (mbc c).setIfInBounds d (.int .u32 (x.rd : Int)) = mbc (takeC c x) := by rw [mbc_put c d x.rd hd8, takeC, hd, Int.toNat_natCast]
 have HD : Hid (x.fr = (d : Int)) := hd
 clear ht hdm hrd hd hyl
 have r0 : ∀ d' os, Calls Tryz.prog 171 #[.agg (mbc m), .int .i64 (d : Int)] (grow (redrawn W d') os) fun e w'' => e = .returned (.bool true) ∧ ∃ p : Regrown, w'' = grow (redrawn W p.d) p.os := fun d' os => Calls.regrown_of (pM _)
 have r1 : ∀ d' os, Calls Tryz.prog 172 #[.int .u32 (c d : Int), .int .u32 (x.rd : Int)] (grow (redrawn W d') os) fun e w'' => e = .returned (.bool true) ∧ ∃ p : Regrown, w'' = grow (redrawn W p.d) p.os := fun d' os => (pN _).mono fun e w'' h => ⟨h.1, ⟨d', os⟩, h.2⟩
 clear pM pN
 refine wp_region_quiet_below (by kernel_rfl) (by kernel_rfl) ?_
 repeat (first
  | (go_big_quiet_want; refine quiet_load rfl rfl lm Tryz.underlying55 rfl sizeMb ?_; simp only [Act.put, List.setIfInBounds_toArray, List.set_cons_zero, List.set_cons_succ]; go_big_quiet_on)
  | go_big_quiet_step (first | with_reducible exact r0 _ _ | with_reducible exact r1 _ _))
 refine wpQuiet_nil ?_
 intro _ hw'
 obtain ⟨⟨dq, osq⟩, hw''⟩ := hw'
 have hb := below_regrown W dq osq
 subst hw''
 generalize grow (redrawn W dq) osq = w1 at hb ⊢
 replace a0 := a0.below hb
 replace a1 := a1.below hb
 replace a2 := a2.below hb
 replace res := res.below hb
 replace hB := hB.trans (hb.mono hB.size)
 clear hb
 clear q0 q1 q2 lm r0 r1
 have p0 := a2.cell 0 _ x.get0
 have p1 := a2.cell 1 _ x.get1
 rw [HD.out] at p0
 go_upto_region 4 with (refine store_one rfl 37 _ _ rfl (off := d) (.int .u32 (x.rd : Int)) a0 rfl rfl rfl rfl sizeU32 (by rw [mbc_size]; omega) ?_; intro w2 b2 k2; rw [hset] at b2)
 try simp only [Act.put]
 replace a2 := a2.kp1 k2 (by omega)
 replace res := res.kp1 k2 (by omega)
 replace hB := hB.trans (k2.below1 (Nat.le_refl _) hB.size)
 clear a0 p0 p1 k2
 have a0 := b2
 clear b2
 replace hB := hB.drew
 replace res := res.drew
 refine wp_region_held_drew (S := fun w' => Blk w.heap.size (mbc (takeC c x)) 60 w' ∧ Blk (w.heap.size + 1 + 1) x.arr 53 w') (by kernel_rfl) ⟨a0.drew, a2.drew⟩ (fun hHeld => ?_)
 refine tkQ 0 hHeld ?_
 try simp only [yy]
 refine' tkH 2 (v := _) rfl (by kernel_rfl) (fun _ _ _ h => h) (yieldsIf_load_mid (by rfl) _ _ rfl (w.heap.size + 1 + 1) 0 rfl x.vals _ ?hS2 Tryz.underlying53 rfl sizeKt) hHeld ?_
 case hS2 => exact fun w h => h.2.whole
 try simp only [yy]
 refine' tkH 5 (v := _) rfl (by kernel_rfl) (fun _ _ _ h => h) (yieldsIf_load_mid (by rfl) _ _ rfl (w.heap.size + 1 + 1) 0 rfl x.vals _ ?hS3 Tryz.underlying53 rfl sizeKt) hHeld ?_
 case hS3 => exact fun w h => h.2.whole
 try simp only [yy]
 refine' tkH 8 (v := _) rfl (by kernel_rfl) (fun _ _ _ h => h) (yieldsIf_load_mid (by rfl) _ _ rfl w.heap.size 0 rfl (mbc (takeC c x)).toList _ ?hS4 Tryz.underlying60 rfl sizeCt) hHeld ?_
 case hS4 => exact fun w h => h.1.whole
 try simp only [yy]
 refine wpAnyH_ready (rs := [1, 6]) (by kernel_rfl) (by simp) ?_
 refine AllReadyH.cons rfl (fun K hK => ?_) (AllReadyH.cons rfl (fun K hK => ?_) (AllReadyH.nil))
 ·go_simp
  go_wp2_with (refine (clone_ok L la lc hl _ (lS.below hB)).mono ?_; rintro r u ⟨⟨ad, cap, rfl, cl⟩, hb⟩)
  have hnr : (w.heap.size + 1 + 1 + 1) ∉ blkOf ad := fun hm => absurd (cl.in _ hm).1 (Nat.not_le.2 res.lt)
  have hnc : w.heap.size ∉ blkOf ad := fun hm => absurd (cl.in _ hm).1 (Nat.not_le.2 hHeld.1.lt)
  have hnx : (w.heap.size + 1 + 1) ∉ blkOf ad := fun hm => absurd (cl.in _ hm).1 (Nat.not_le.2 hHeld.2.lt)
  have hBl : ∀ k ∈ blkOf ad, w.heap.size ≤ k := fun k hm => Nat.le_trans hB.size (cl.in k hm).1
  have hs1 := hb.size
  have hr1 := res.lt
  have hw1 := hB.size
  replace res := res.below hb
  replace hB := hB.trans (hb.mono hB.size)
  refine hK.out _ _ ⟨hHeld.1.below hb, hHeld.2.below hb⟩ (fun hHeld => ?_)
  clear hK K hb
  refine wpAnyH_ready (rs := [3, 6]) (by kernel_rfl) (by simp) ?_
  refine AllReadyH.cons rfl (fun K hK => ?_) (AllReadyH.cons rfl (fun K hK => ?_) (AllReadyH.nil))
  ·go_simp
   go_wp2_with (refine (olderThan_ok x _).mono ?_; rintro r u ⟨⟨X, rfl, hXl, ax⟩, hb⟩)
   have hXa : X ∉ blkOf ad := fun hm => by have := (cl.in _ hm).2; omega
   replace res := res.below hb
   replace cl := cl.below hb
   replace hB := hB.trans (hb.mono hB.size)
   replace hs1 := Nat.le_trans hs1 hb.size
   refine hK.out _ _ ⟨hHeld.1.below hb, hHeld.2.below hb⟩ (fun hHeld => ?_)
   clear hK K hb hXl
   refine wpAnyH_ready (rs := [4, 6]) (by kernel_rfl) (by simp) ?_
   refine AllReadyH.cons rfl (fun K hK => ?_) (AllReadyH.cons rfl (fun K hK => ?_) (AllReadyH.nil))
   ·go_simp
    go_wp2_with (refine (delete_ok x X L _ ad cap _ cl ax hXa).mono ?_; rintro r u ⟨⟨rfl, dl⟩, hk⟩)
    replace res := res.kp hk hnr
    replace hB := hB.trans (hk.below hBl hB.size)
    replace hs1 := Nat.le_trans hs1 hk.size
    refine hK.out _ _ ⟨hHeld.1.kp hk hnc, hHeld.2.kp hk hnx⟩ (fun hHeld => ?_)
    clear hK K hk cl ax hXa
    refine rd1 6 (fun K hK => ?_)
    rw [if_pos (by rfl)]
    refine wp_kt _ rfl x rfl ?_
    intro bp u bx hb bl bt
    have hbp : bp ∉ blkOf ad := fun hm => by have := (dl.in _ hm).2; omega
    replace res := res.below hb
    replace dl := dl.below hb
    replace hB := hB.trans (hb.mono hB.size)
    replace hs1 := Nat.le_trans hs1 hb.size
    refine hK.out _ _ ⟨hHeld.1.below hb, hHeld.2.below hb⟩ (fun hHeld => ?_)
    clear hK K hb bl bt
    try simp only [yy]
    refine rd1 7 (fun K hK => ?_)
    rw [if_pos (by rfl)]
    have hx := (li_one (f := Kt.vals) bx).src (P := Tryz.prog) Kt.vals_length Kt.vals_one Tryz.underlying73 1
    refine wp_append_lk Kt.vals_length _ _ rfl Tryz.underlying73 hI hz0 hsz hby hzs dl hs1 rfl (M := [x]) (by simp) hx rfl hlb hl63 ?_
    intro ad2 cap2 u out hk
    replace res := res.kp hk hnr
    replace hB := hB.trans (hk.below hBl hB.size)
    replace hs1 := Nat.le_trans hs1 hk.size
    refine hK.out _ _ ⟨hHeld.1.kp hk hnc, hHeld.2.kp hk hnx⟩ (fun hHeld => ?_)
    clear hK K hk dl bx hx hbp
    try simp only [yy]
    refine tkQ 9 hHeld ?_
    try simp only [yy]
    refine rd1 10 (fun K hK => ?_)
    rw [if_pos (by rfl)]
    refine wp_store_all 60 _ _ rfl (cells := mbc (takeC c x)) res rfl rfl sizeCt rfl (mbc_one _) ?_
    intro u hn hk
    replace out := out.kp hk (fun k hm => by rw [List.mem_singleton.1 hm]; exact hr1)
    replace hB := hB.trans (hk.below1 (by omega) hB.size)
    refine hK.out _ _ ⟨hHeld.1.kp1 hk (by omega), hHeld.2.kp1 hk (by omega)⟩ (fun hHeld => ?_)
    clear hK K hk
    try simp only [yy]
    refine tkQ 11 hHeld ?_
    try simp only [yy]
    refine wpAnyH_done (by kernel_rfl) ?_ _
    go_wp2_with fail
    refine bodyPost_ret (w := u) (v := .tuple #[.slice ad2 (takeL L x).length cap2, .agg (mbc (takeC c x)), .bool true]) ?_ rfl ⟨⟨ad2, cap2, rfl, out.li.mono hw1⟩, hB⟩
    refine ret_tct rfl rfl hn Tryz.underlying60 rfl sizeCt ?_ rfl
    rw [show (takeL L x).length = (young x L).length + [x].length from by rw [takeL, List.length_append]]
    rfl
   ·rw [if_pos (by rfl)]
    refine wp_kt _ rfl x rfl ?_
    intro bp u bx hb bl bt
    have hbp : bp ∉ blkOf ad := fun hm => by have := (cl.in _ hm).2; omega
    replace res := res.below hb
    replace cl := cl.below hb
    replace ax := ax.below hb
    replace hB := hB.trans (hb.mono hB.size)
    replace hs1 := Nat.le_trans hs1 hb.size
    refine hK.out _ _ ⟨hHeld.1.below hb, hHeld.2.below hb⟩ (fun hHeld => ?_)
    clear hK K hb bl bt
    try simp only [yy]
    refine rd1 4 (fun K hK => ?_)
    go_simp
    go_wp2_with (refine (delete_ok x X L _ ad cap _ cl ax hXa).mono ?_; rintro r u ⟨⟨rfl, dl⟩, hk⟩)
    replace res := res.kp hk hnr
    replace hB := hB.trans (hk.below hBl hB.size)
    replace hs1 := Nat.le_trans hs1 hk.size
    replace bx := bx.kp hk hbp
    refine hK.out _ _ ⟨hHeld.1.kp hk hnc, hHeld.2.kp hk hnx⟩ (fun hHeld => ?_)
    clear hK K hk cl ax hXa
    refine rd1 7 (fun K hK => ?_)
    rw [if_pos (by rfl)]
    have hx := (li_one (f := Kt.vals) bx).src (P := Tryz.prog) Kt.vals_length Kt.vals_one Tryz.underlying73 1
    refine wp_append_lk Kt.vals_length _ _ rfl Tryz.underlying73 hI hz0 hsz hby hzs dl hs1 rfl (M := [x]) (by simp) hx rfl hlb hl63 ?_
    intro ad2 cap2 u out hk
    replace res := res.kp hk hnr
    replace hB := hB.trans (hk.below hBl hB.size)
    replace hs1 := Nat.le_trans hs1 hk.size
    refine hK.out _ _ ⟨hHeld.1.kp hk hnc, hHeld.2.kp hk hnx⟩ (fun hHeld => ?_)
    clear hK K hk dl bx hx hbp
    try simp only [yy]
    refine tkQ 9 hHeld ?_
    try simp only [yy]
    refine rd1 10 (fun K hK => ?_)
    rw [if_pos (by rfl)]
    refine wp_store_all 60 _ _ rfl (cells := mbc (takeC c x)) res rfl rfl sizeCt rfl (mbc_one _) ?_
    intro u hn hk
    replace out := out.kp hk (fun k hm => by rw [List.mem_singleton.1 hm]; exact hr1)
    replace hB := hB.trans (hk.below1 (by omega) hB.size)
    refine hK.out _ _ ⟨hHeld.1.kp1 hk (by omega), hHeld.2.kp1 hk (by omega)⟩ (fun hHeld => ?_)
    clear hK K hk
    try simp only [yy]
    refine tkQ 11 hHeld ?_
    try simp only [yy]
    refine wpAnyH_done (by kernel_rfl) ?_ _
    go_wp2_with fail
    refine bodyPost_ret (w := u) (v := .tuple #[.slice ad2 (takeL L x).length cap2, .agg (mbc (takeC c x)), .bool true]) ?_ rfl ⟨⟨ad2, cap2, rfl, out.li.mono hw1⟩, hB⟩
    refine ret_tct rfl rfl hn Tryz.underlying60 rfl sizeCt ?_ rfl
    rw [show (takeL L x).length = (young x L).length + [x].length from by rw [takeL, List.length_append]]
    rfl
  ·rw [if_pos (by rfl)]
   refine wp_kt _ rfl x rfl ?_
   intro bp u bx hb bl bt
   have hbp : bp ∉ blkOf ad := fun hm => by have := (cl.in _ hm).2; omega
   replace res := res.below hb
   replace cl := cl.below hb
   replace hB := hB.trans (hb.mono hB.size)
   replace hs1 := Nat.le_trans hs1 hb.size
   refine hK.out _ _ ⟨hHeld.1.below hb, hHeld.2.below hb⟩ (fun hHeld => ?_)
   clear hK K hb bl bt
   try simp only [yy]
   refine rd1 3 (fun K hK => ?_)
   go_simp
   go_wp2_with (refine (olderThan_ok x _).mono ?_; rintro r u ⟨⟨X, rfl, hXl, ax⟩, hb⟩)
   have hXa : X ∉ blkOf ad := fun hm => by have := (cl.in _ hm).2; omega
   replace res := res.below hb
   replace cl := cl.below hb
   replace bx := bx.below hb
   replace hB := hB.trans (hb.mono hB.size)
   replace hs1 := Nat.le_trans hs1 hb.size
   refine hK.out _ _ ⟨hHeld.1.below hb, hHeld.2.below hb⟩ (fun hHeld => ?_)
   clear hK K hb hXl
   refine rd1 4 (fun K hK => ?_)
   go_simp
   go_wp2_with (refine (delete_ok x X L _ ad cap _ cl ax hXa).mono ?_; rintro r u ⟨⟨rfl, dl⟩, hk⟩)
   replace res := res.kp hk hnr
   replace hB := hB.trans (hk.below hBl hB.size)
   replace hs1 := Nat.le_trans hs1 hk.size
   replace bx := bx.kp hk hbp
   refine hK.out _ _ ⟨hHeld.1.kp hk hnc, hHeld.2.kp hk hnx⟩ (fun hHeld => ?_)
   clear hK K hk cl ax hXa
   refine rd1 7 (fun K hK => ?_)
   rw [if_pos (by rfl)]
   have hx := (li_one (f := Kt.vals) bx).src (P := Tryz.prog) Kt.vals_length Kt.vals_one Tryz.underlying73 1
   refine wp_append_lk Kt.vals_length _ _ rfl Tryz.underlying73 hI hz0 hsz hby hzs dl hs1 rfl (M := [x]) (by simp) hx rfl hlb hl63 ?_
   intro ad2 cap2 u out hk
   replace res := res.kp hk hnr
   replace hB := hB.trans (hk.below hBl hB.size)
   replace hs1 := Nat.le_trans hs1 hk.size
   refine hK.out _ _ ⟨hHeld.1.kp hk hnc, hHeld.2.kp hk hnx⟩ (fun hHeld => ?_)
   clear hK K hk dl bx hx hbp
   try simp only [yy]
   refine tkQ 9 hHeld ?_
   try simp only [yy]
   refine rd1 10 (fun K hK => ?_)
   rw [if_pos (by rfl)]
   refine wp_store_all 60 _ _ rfl (cells := mbc (takeC c x)) res rfl rfl sizeCt rfl (mbc_one _) ?_
   intro u hn hk
   replace out := out.kp hk (fun k hm => by rw [List.mem_singleton.1 hm]; exact hr1)
   replace hB := hB.trans (hk.below1 (by omega) hB.size)
   refine hK.out _ _ ⟨hHeld.1.kp1 hk (by omega), hHeld.2.kp1 hk (by omega)⟩ (fun hHeld => ?_)
   clear hK K hk
   try simp only [yy]
   refine tkQ 11 hHeld ?_
   try simp only [yy]
   refine wpAnyH_done (by kernel_rfl) ?_ _
   go_wp2_with fail
   refine bodyPost_ret (w := u) (v := .tuple #[.slice ad2 (takeL L x).length cap2, .agg (mbc (takeC c x)), .bool true]) ?_ rfl ⟨⟨ad2, cap2, rfl, out.li.mono hw1⟩, hB⟩
   refine ret_tct rfl rfl hn Tryz.underlying60 rfl sizeCt ?_ rfl
   rw [show (takeL L x).length = (young x L).length + [x].length from by rw [takeL, List.length_append]]
   rfl
 ·rw [if_pos (by rfl)]
  refine wp_kt _ rfl x rfl ?_
  intro bp u bx hb bl bt
  replace res := res.below hb
  replace hB := hB.trans (hb.mono hB.size)
  refine hK.out _ _ ⟨hHeld.1.below hb, hHeld.2.below hb⟩ (fun hHeld => ?_)
  clear hK K hb bl bt
  try simp only [yy]
  refine rd1 1 (fun K hK => ?_)
  go_simp
  go_wp2_with (refine (clone_ok L la lc hl _ (lS.below hB)).mono ?_; rintro r u ⟨⟨ad, cap, rfl, cl⟩, hb⟩)
  have hnr : (w.heap.size + 1 + 1 + 1) ∉ blkOf ad := fun hm => absurd (cl.in _ hm).1 (Nat.not_le.2 res.lt)
  have hnc : w.heap.size ∉ blkOf ad := fun hm => absurd (cl.in _ hm).1 (Nat.not_le.2 hHeld.1.lt)
  have hnx : (w.heap.size + 1 + 1) ∉ blkOf ad := fun hm => absurd (cl.in _ hm).1 (Nat.not_le.2 hHeld.2.lt)
  have hBl : ∀ k ∈ blkOf ad, w.heap.size ≤ k := fun k hm => Nat.le_trans hB.size (cl.in k hm).1
  have hbp : bp ∉ blkOf ad := fun hm => absurd (cl.in _ hm).1 (Nat.not_le.2 bx.lt)
  have hs1 := hb.size
  have hr1 := res.lt
  have hw1 := hB.size
  replace res := res.below hb
  replace bx := bx.below hb
  replace hB := hB.trans (hb.mono hB.size)
  refine hK.out _ _ ⟨hHeld.1.below hb, hHeld.2.below hb⟩ (fun hHeld => ?_)
  clear hK K hb
  refine rd1 3 (fun K hK => ?_)
  go_simp
  go_wp2_with (refine (olderThan_ok x _).mono ?_; rintro r u ⟨⟨X, rfl, hXl, ax⟩, hb⟩)
  have hXa : X ∉ blkOf ad := fun hm => by have := (cl.in _ hm).2; omega
  replace res := res.below hb
  replace bx := bx.below hb
  replace cl := cl.below hb
  replace hB := hB.trans (hb.mono hB.size)
  replace hs1 := Nat.le_trans hs1 hb.size
  refine hK.out _ _ ⟨hHeld.1.below hb, hHeld.2.below hb⟩ (fun hHeld => ?_)
  clear hK K hb hXl
  refine rd1 4 (fun K hK => ?_)
  go_simp
  go_wp2_with (refine (delete_ok x X L _ ad cap _ cl ax hXa).mono ?_; rintro r u ⟨⟨rfl, dl⟩, hk⟩)
  replace res := res.kp hk hnr
  replace hB := hB.trans (hk.below hBl hB.size)
  replace hs1 := Nat.le_trans hs1 hk.size
  replace bx := bx.kp hk hbp
  refine hK.out _ _ ⟨hHeld.1.kp hk hnc, hHeld.2.kp hk hnx⟩ (fun hHeld => ?_)
  clear hK K hk cl ax hXa
  refine rd1 7 (fun K hK => ?_)
  rw [if_pos (by rfl)]
  have hx := (li_one (f := Kt.vals) bx).src (P := Tryz.prog) Kt.vals_length Kt.vals_one Tryz.underlying73 1
  refine wp_append_lk Kt.vals_length _ _ rfl Tryz.underlying73 hI hz0 hsz hby hzs dl hs1 rfl (M := [x]) (by simp) hx rfl hlb hl63 ?_
  intro ad2 cap2 u out hk
  replace res := res.kp hk hnr
  replace hB := hB.trans (hk.below hBl hB.size)
  replace hs1 := Nat.le_trans hs1 hk.size
  refine hK.out _ _ ⟨hHeld.1.kp hk hnc, hHeld.2.kp hk hnx⟩ (fun hHeld => ?_)
  clear hK K hk dl bx hx hbp
  try simp only [yy]
  refine tkQ 9 hHeld ?_
  try simp only [yy]
  refine rd1 10 (fun K hK => ?_)
  rw [if_pos (by rfl)]
  refine wp_store_all 60 _ _ rfl (cells := mbc (takeC c x)) res rfl rfl sizeCt rfl (mbc_one _) ?_
  intro u hn hk
  replace out := out.kp hk (fun k hm => by rw [List.mem_singleton.1 hm]; exact hr1)
  replace hB := hB.trans (hk.below1 (by omega) hB.size)
  refine hK.out _ _ ⟨hHeld.1.kp1 hk (by omega), hHeld.2.kp1 hk (by omega)⟩ (fun hHeld => ?_)
  clear hK K hk
  try simp only [yy]
  refine tkQ 11 hHeld ?_
  try simp only [yy]
  refine wpAnyH_done (by kernel_rfl) ?_ _
  go_wp2_with fail
  refine bodyPost_ret (w := u) (v := .tuple #[.slice ad2 (takeL L x).length cap2, .agg (mbc (takeC c x)), .bool true]) ?_ rfl ⟨⟨ad2, cap2, rfl, out.li.mono hw1⟩, hB⟩
  refine ret_tct rfl rfl hn Tryz.underlying60 rfl sizeCt ?_ rfl
  rw [show (takeL L x).length = (young x L).length + [x].length from by rw [takeL, List.length_append]]
  rfl
end Go.Proofs.YthgfpdidilolgaaGreat
