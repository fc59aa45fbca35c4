/-
  Of the texts beneath these laws, in their order: RdA, CeF.
  Each theorem says its own conditions.
-/
import Derived.Test.YthgfpdidilolgaaGreatZ00
import Derived.Test.YthgfpdidilolgaaGreatZ16
import Derived.Test.YthgfpdidilolgaaGreatZ04
namespace Go.Proofs.YthgfpdidilolgaaGreat
set_option maxRecDepth 10000
open Go.RowKit Go.Sort
set_option maxHeartbeats 2000000 in
theorem cleast_ok (c m : Nat → Nat) (w : World) : Calls Tryz.prog 169 #[.agg (mbc c), .agg (mbc m)] w fun e w' => e = .returned (.tuple #[.int .u32 (leastC c m : Nat), .bool (!(lst m).isEmpty)]) ∧ Below w.heap.size w w' := by
 obtain ⟨a0, a1, hB⟩ := two_blk (T0 := 60) (T1 := 55) (C0 := mbc c) (C1 := mbc m) (w := w) rfl
 obtain ⟨R, hR⟩ : ∃ R, Hid (leastC c m = R) := ⟨_, rfl⟩
 rw [hR.out]
 have hm8 := lst_len m
 have HM : Hid (∀ j d, (lst m)[j]? = some d → d < 8) := fun j d h => (at_lst m j d h).1
 have HL : Hid (leastL c (lst m) = R) := hR
 obtain ⟨t, ht⟩ : ∃ t, Hid ((!(lst m).isEmpty) = t) := ⟨_, rfl⟩
 rw [ht.out]
 have hl := list_ok m
 unfold Listed at hl
 generalize lst m = L at *
 clear hR
 go_enter Tryz.func169, Tryz.ntmps169
 go_upto_region 1 with fail
 generalize (w.alloc (Obj.cells (mbc c) 60)).alloc (Obj.cells (mbc m) 55) = W at a0 a1 hB ⊢
 go_wp2_with (refine load_blk rfl 55 _ rfl a1 rfl Tryz.underlying55 rfl sizeMb ?_)
 refine (hl _).mono ?_
 rintro r w1 ⟨⟨la, lc, rfl, hS⟩, hb⟩
 replace a0 := a0.below hb
 replace hB := hB.trans (hb.mono hB.size)
 replace hS := hS.mono (Nat.zero_le _)
 clear hb hl a1
 cases L with
 | nil =>
  have e : R = 0 := HL.out.symm
  have e2 : t = false := ht.out.symm
  subst e e2
  clear ht HL HM hm8 hS a0
  go_wp2_with fail
  go_ret2
  exact ⟨rfl, hB⟩
 | cons x l =>
  have hx8 := HM.out 0 x rfl
  obtain ⟨b, o, rfl, _, hbl, hr⟩ := hS.at nv_length 0 x rfl
  have q0 : w1.cell? ⟨b, o, none⟩ = some (.int .i64 (x : Int)) := by have := hr 0 _ rfl; simpa using this
  have q1 := a0.cell x _ (mbc_get c x hx8)
  have x0 : (x : Int) < 8 := by omega
  have x1 : (0 : Int) ≤ (x : Int) := by omega
  have HF : Hid (fm c (c x) (x :: l) = R) := by rw [← HL.out]; exact fm_head c x l
  obtain ⟨n, hn⟩ : ∃ n, (x :: l).length = n := ⟨_, rfl⟩
  have HN : Hid ((x :: l).length = n) := hn
  have e2 : t = true := ht.out.symm
  subst e2
  rw [hn]
  rw [hn] at hm8
  have hnp : 0 < n := by rw [← hn]; simp
  have hn0 : ¬ (n : Int) = 0 := by omega
  have n0 : (0 : Int) < (n : Int) := by omega
  have hS' : Hid (Li nv 0 (some ⟨b, o, none⟩) (x :: l) w1) := hS
  clear hn hS hr HL ht hnp
  go_wp2_with fail
  clear q0 q1 x0 x1 hx8 hn0 n0
  go_loopw [7, 22] (fun mv iv wr => ∃ j : Nat, j ≤ n ∧ iv = .int .i64 j ∧ mv = .int .u32 (fm c (c x) ((x :: l).take j) : Nat) ∧ wr = w1) (fun _ iv _ => n - (intOf iv).toNat)
  case atStart => exact ⟨0, by omega, rfl, rfl, rfl⟩
  case round =>
   obtain ⟨j, hj, rfl, rfl, rfl⟩ := hrel
   by_cases hjn : j < n
   ·have j0 : (j : Int) < (n : Int) := by omega
    have j1 : (0 : Int) ≤ (j : Int) := by omega
    obtain ⟨d, hd⟩ : ∃ d, (x :: l)[j]? = some d := ⟨_, List.getElem?_eq_getElem (by rw [HN.out]; exact hjn)⟩
    have hd8 := HM.out j d hd
    have d0 : (d : Int) < 8 := by omega
    have d1 : (0 : Int) ≤ (d : Int) := by omega
    obtain ⟨b', o', e', _, _, hr'⟩ := hS'.out.at nv_length j d hd
    injection e' with e'
    injection e' with e1 e2 e3
    subst e1 e2
    have q0 : wr.cell? ⟨b, o + j, none⟩ = some (.int .i64 (d : Int)) := by have := hr' 0 _ rfl; simpa using this
    have q1 := a0.cell d _ (mbc_get c d hd8)
    have hst := fm_take c (c x) (x :: l) j d hd
    generalize fm c (c x) ((x :: l).take j) = u at hst ⊢
    have HS : Hid (fm c (c x) ((x :: l).take (j + 1)) = min u (c d)) := hst
    clear hst hr' hd hd8 hbl
    go_wp2_with fail
    refine ⟨⟨j + 1, by omega, by go_num, ?_, trivial⟩, by simp [intOf]; omega⟩
    rw [HS.out]
    congr 1
    split <;> omega
   ·obtain rfl : j = n := by omega
    have e : fm c (c x) ((x :: l).take j) = R := by rw [List.take_of_length_le (by rw [HN.out]; omega)]; exact HF.out
    rw [e]
    clear e HF HN HM hS' a0
    go_wp2_with fail
    go_ret2
    exact ⟨rfl, hB⟩
theorem isMember_ok (m : Nat → Nat) (v : Int) (w : World) : Calls Tryz.prog 170 #[.agg (mbc m), .int .i64 v] w fun e w' => e = .returned (.bool (isM m v)) ∧ Below w.heap.size w w' := by
 have a0 := blk_new w (mbc m) 55
 have hB : Below w.heap.size w (w.alloc (.cells (mbc m) 55)) := below_box w _
 have hm8 := lst_len m
 rw [← hasL_isM]
 obtain ⟨t, hT⟩ : ∃ t, Hid (hasL (lst m) v = t) := ⟨_, rfl⟩
 rw [hT.out]
 go_enter Tryz.func170, Tryz.ntmps170
 go_upto_region 1 with fail
 generalize (w.alloc (Obj.cells (mbc m) 55)) = W at a0 hB ⊢
 go_wp2_with (refine load_blk rfl 55 _ rfl a0 rfl Tryz.underlying55 rfl sizeMb ?_)
 refine (list_ok m _).mono ?_
 rintro r w1 ⟨⟨la, lc, rfl, hS⟩, hb⟩
 replace hB := hB.trans (hb.mono hB.size)
 replace hS := hS.mono (Nat.zero_le _)
 have hp := contains_ok (lst m) la lc v (by omega) w1 hS
 rw [hT.out] at hp
 generalize (lst m).length = n at *
 clear hb a0 hS
 go_wp2_with fail
 refine hp.mono ?_
 rintro r w2 ⟨rfl, rfl⟩
 clear hp
 go_wp2_with fail
 go_ret
 exact ⟨rfl, hB⟩
set_option maxHeartbeats 1000000 in
theorem may_ok (c m : Nat → Nat) (v : Int) (w : World) : Calls Tryz.prog 137 #[.agg (mbc c), .agg (mbc m), .int .i64 v] w fun e w' => e = .returned (.bool (mayB c m v)) ∧ Below w.heap.size w w' := by
 obtain ⟨a0, a1, hB⟩ := two_blk (T0 := 60) (T1 := 55) (C0 := mbc c) (C1 := mbc m) (w := w) rfl
 obtain ⟨R, hR⟩ : ∃ R, Hid (mayB c m v = R) := ⟨_, rfl⟩
 rw [hR.out]
 have pL := cleast_ok c m
 have pM := isMember_ok m v
 obtain ⟨t, ht⟩ : ∃ t, isM m v = t := ⟨_, rfl⟩
 have HT : Hid (isM m v = t) := ht
 obtain ⟨q, hq⟩ : ∃ q, leastC c m = q := ⟨_, rfl⟩
 have HQ : Hid (leastC c m = q) := hq
 rw [ht] at pM
 rw [hq] at pL
 clear ht hq
 generalize (!(lst m).isEmpty) = y at pL
 go_enter Tryz.func137, Tryz.ntmps137
 go_upto_region 1 with fail
 generalize (w.alloc (Obj.cells (mbc c) 60)).alloc (Obj.cells (mbc m) 55) = W at a0 a1 hB ⊢
 go_wp2_with (first | refine load_blk rfl 60 _ rfl a0 rfl Tryz.underlying60 rfl sizeCt ?_ | refine load_blk rfl 55 _ rfl a1 rfl Tryz.underlying55 rfl sizeMb ?_)
 refine (pL _).mono ?_
 rintro r w1 ⟨rfl, hb⟩
 replace a0 := a0.below hb
 replace a1 := a1.below hb
 replace hB := hB.trans (hb.mono hB.size)
 clear hb pL
 go_wp2_with (refine load_blk rfl 55 _ rfl a1 rfl Tryz.underlying55 rfl sizeMb ?_)
 refine (pM _).mono ?_
 rintro r w2 ⟨rfl, hb⟩
 replace a0 := a0.below hb
 replace hB := hB.trans (hb.mono hB.size)
 clear hb pM a1
 cases t with
 | false =>
  obtain rfl : R = false := by rw [← hR.out, mayB, HT.out]; rfl
  clear hR HT HQ a0
  go_wp2_with fail
  go_ret
  exact ⟨rfl, hB⟩
 | true =>
  obtain ⟨d, rfl, hd⟩ := (isM_iff m v).1 HT.out
  obtain ⟨hd8, _⟩ := (mem_lst m d).1 hd
  have d0 : (d : Int) < 8 := by omega
  have d1 : (0 : Int) ≤ (d : Int) := by omega
  have c0 := a0.cell d _ (mbc_get c d hd8)
  have hr : R = decide (c d = q) := by rw [← hR.out, mayB, HT.out, HQ.out]; simp
  have hr' : ((c d : Int) == (q : Int)) = R := by rw [hr, Bool.eq_iff_iff, beq_iff_eq, decide_eq_true_iff]; omega
  clear hr hR HT HQ a0 hd
  go_wp2_with fail
  go_ret
  exact ⟨rfl, hB⟩
end Go.Proofs.YthgfpdidilolgaaGreat
namespace Go.Proofs.YthgfpdidilolgaaGreat
set_option maxRecDepth 10000
set_option linter.unusedSimpArgs false
open Go.RowKit Go.Sort
set_option linter.unusedVariables false
set_option maxHeartbeats 8000000 in
theorem send_ok (B P : Nat) (s0 : Sg) (f : Nat → En) (s : Nat) (hs : s < 8) (hcs : s0.c.self = (s : Int)) (hc : ∀ i, s0.c.count i < 4294967296) (hl : (s0.L.length + 1) * 352 ≤ 140737488355328) (ht : (s0.t.length + 1) * 408 ≤ 140737488355328) (hBP : B ≤ P) (w : World) (hU : Uv 166 B P s0 w) :
  Calls Tryz.prog 103 #[.pointer (some ⟨P, 0, none⟩), .agg (frc f)] w fun e w' => e = .returned (.bool (sendB s0.c)) ∧ Uv 166 B P (sendS s0 f) w' ∧ Below P w w' := by
 obtain ⟨c0, L, Hs⟩ := s0
 obtain ⟨c, ta, tk, hn, hsim, b0, hL, hG, hO, hO2⟩ := hU.open
 have hU0 := hU
 clear hU
 have hn : c.kn = L.length := hn
 have b0 : Blk P (unc c (.slice ta Hs.length tk)) 166 w := b0
 have hL : Li Kt.vals B c.ka L w := hL
 have hG : Lg Hp.vals 50 57 (P + 1) ta tk Hs w := hG
 have hO : Off c.ka L P := hO
 have hO2 : ∀ g ∈ blkOf ta, Off c.ka L g := hO2
 have hl : (L.length + 1) * 352 ≤ 140737488355328 := hl
 have ht : (Hs.length + 1) * 408 ≤ 140737488355328 := ht
 have hP := b0.lt
 have hin := hG.in
 obtain ⟨a9, n9, k9, hcc⟩ := eq_kp hsim
 have hcs : c.self = (s : Int) := by rw [hcc]; exact hcs
 have hc : ∀ i, c.count i < 4294967296 := by rw [hcc]; exact hc
 have HS := send_sim hsim L Hs f
 have eB : sendB (Sg.mk c0 L Hs).c = sendB c := HS.2.symm
 rw [eB]
 have fin_no : ∀ u, Below w.heap.size w u → sendB c = false → Uv 166 B P (sendS ⟨c0, L, Hs⟩ f) u ∧ Below P w u := by
  intro u hb hi
  refine ⟨?_, hb.mono (by omega)⟩
  have e : sendS ⟨c0, L, Hs⟩ f = ⟨c0, L, Hs⟩ := by rw [sendS, eB, hi]; rfl
  rw [e]
  exact hU0.below hb
 have pg := gathers_ok c
 have pm := may_ok c.count c.mem c.self
 rw [hcs] at pm
 have po := own_ok c s hs hcs
 have eo : ownN c = c.count s := by rw [ownN, hcs, Int.toNat_natCast]
 obtain ⟨o, ho⟩ : ∃ o, ownN c = o := ⟨_, rfl⟩
 have holt : o < 4294967296 := by rw [← ho, eo]; exact hc s
 obtain ⟨g, hg⟩ : ∃ t, gathB c = t := ⟨_, rfl⟩
 obtain ⟨M, hM⟩ : ∃ t, mayB c.count c.mem (s : Int) = t := ⟨_, rfl⟩
 obtain ⟨Z, hZ⟩ : ∃ t, decide (o = 4294967295) = t := ⟨_, rfl⟩
 obtain ⟨R, HR⟩ : ∃ R, Hid (sendB c = R) := ⟨_, rfl⟩
 have hR : R = (!g && M && !Z) := by rw [← HR.out, sendB, hg, hcs, hM, ho, hZ]
 have kZ : ((o : Int) == 4294967295) = Z := by rw [← hZ, Bool.eq_iff_iff, beq_iff_eq, decide_eq_true_iff]; omega
 rw [hg] at pg
 rw [hM] at pm
 rw [ho] at po
 rw [HR.out]
 clear eB hU0 hsim hcc hg
 have a0 := blk_new w (frc f) 43
 have hb := below_box w (.cells (frc f) 43)
 go_enter Tryz.func103, Tryz.ntmps103
 go_upto_region 1 with fail
 generalize w.alloc (Obj.cells (frc f) 43) = W at a0 hb ⊢
 have bP := b0.below hb
 have hB := hb
 clear b0 hb
 go_wp2_with (refine load_part rfl 78 _ rfl (o := 0) bP rfl (col c) (unc_core _ _) Tryz.underlying78 rfl sizeCo ?_)
 refine (po _).mono ?_
 rintro r w1 ⟨rfl, hb⟩
 replace a0 := a0.below hb
 replace bP := bP.below hb
 replace hB := hB.trans (hb.mono hB.size)
 clear hb po
 go_upto_region 2 with fail
 have hC0 : Below w1.heap.size w1 w1.drew := (Below.refl _ _).drew
 go_cut [39] from 12 to 38 (fun v wx => v = .bool (!R) ∧ Blk P (unc c (.slice ta Hs.length tk)) 166 wx ∧ Below w1.heap.size w1 wx)
 case first =>
  clear fin_no
  cases g with
  | true =>
   obtain rfl : R = false := by rw [hR]; rfl
   clear hR HR pm kZ
   refine wp_region_held_drew (S := fun w' => Blk P (unc c (.slice ta Hs.length tk)) 166 w') (by kernel_rfl) bP.drew (fun hHeld => ?_)
   refine tkQ 0 hHeld ?_
   try simp only [yy]
   refine tkQ 1 hHeld ?_
   try simp only [yy]
   refine tkQ 2 hHeld ?_
   try simp only [yy]
   refine' tkH 3 (v := _) rfl (by kernel_rfl) (fun _ _ _ h => h) (yieldsIf_load_mid (by rfl) _ _ rfl P 0 rfl (col c) _ ?hS4 Tryz.underlying78 rfl sizeCo) hHeld ?_
   case hS4 => exact fun w h => h.range 0 _ (unc_core _ _)
   try simp only [yy]
   refine rd1 4 (fun K hK => ?_)
   go_simp
   go_wp2_with (refine (pg _).mono ?_; rintro r u1 ⟨rfl, hb⟩)
   have hC1 := hC0.trans (hb.mono hC0.size)
   refine hK.out _ _ (hHeld.below hb) (fun hHeld => ?_)
   clear hK K hb hC0
   refine tkQ 5 hHeld ?_
   try simp only [yy]
   refine tkU 6 hHeld ?_
   try simp only [yy]
   refine tkU 7 hHeld ?_
   try simp only [yy]
   refine tkU 8 hHeld ?_
   try simp only [yy]
   refine tkU 9 hHeld ?_
   try simp only [yy]
   refine tkU 10 hHeld ?_
   try simp only [yy]
   refine tkU 11 hHeld ?_
   try simp only [yy]
   refine tkU 12 hHeld ?_
   try simp only [yy]
   refine tkU 13 hHeld ?_
   try simp only [yy]
   refine tkU 14 hHeld ?_
   try simp only [yy]
   refine tkU 15 hHeld ?_
   try simp only [yy]
   refine tkU 16 hHeld ?_
   try simp only [yy]
   refine tkU 17 hHeld ?_
   try simp only [yy]
   refine tkU 18 hHeld ?_
   try simp only [yy]
   refine tkU 19 hHeld ?_
   try simp only [yy]
   refine tkU 20 hHeld ?_
   try simp only [yy]
   refine tkU 21 hHeld ?_
   try simp only [yy]
   refine tkU 22 hHeld ?_
   try simp only [yy]
   refine tkQ 23 hHeld ?_
   try simp only [yy]
   refine tkQ 24 hHeld ?_
   try simp only [yy]
   refine tkU 25 hHeld ?_
   try simp only [yy]
   refine tkU 26 hHeld ?_
   try simp only [yy]
   refine tkQ 27 hHeld ?_
   try simp only [yy]
   refine wpAnyH_done (by kernel_rfl) ?_ _
   go_wp2_with fail
   go_meet
   exact ⟨rfl, hHeld, hC1⟩
  | false =>
   cases M with
   | false =>
    obtain rfl : R = false := by rw [hR]; rfl
    clear hR HR kZ
    refine wp_region_held_drew (S := fun w' => Blk P (unc c (.slice ta Hs.length tk)) 166 w') (by kernel_rfl) bP.drew (fun hHeld => ?_)
    refine tkQ 0 hHeld ?_
    try simp only [yy]
    refine tkQ 1 hHeld ?_
    try simp only [yy]
    refine tkQ 2 hHeld ?_
    try simp only [yy]
    refine' tkH 3 (v := _) rfl (by kernel_rfl) (fun _ _ _ h => h) (yieldsIf_load_mid (by rfl) _ _ rfl P 0 rfl (col c) _ ?hS31 Tryz.underlying78 rfl sizeCo) hHeld ?_
    case hS31 => exact fun w h => h.range 0 _ (unc_core _ _)
    try simp only [yy]
    refine rd1 4 (fun K hK => ?_)
    go_simp
    go_wp2_with (refine (pg _).mono ?_; rintro r u1 ⟨rfl, hb⟩)
    have hC1 := hC0.trans (hb.mono hC0.size)
    refine hK.out _ _ (hHeld.below hb) (fun hHeld => ?_)
    clear hK K hb hC0
    refine tkQ 5 hHeld ?_
    try simp only [yy]
    refine tkQ 6 hHeld ?_
    try simp only [yy]
    refine tkQ 7 hHeld ?_
    try simp only [yy]
    refine tkQ 8 hHeld ?_
    try simp only [yy]
    refine tkQ 9 hHeld ?_
    try simp only [yy]
    refine' tkH 10 (v := _) rfl (by kernel_rfl) (fun _ _ _ h => h) (yieldsIf_load_mid (by rfl) _ _ rfl P 31 rfl (row8 c.count) _ ?hS37 Tryz.underlying60 rfl sizeCt) hHeld ?_
    case hS37 => exact fun w h => h.range 31 _ (un_count _ _)
    try simp only [yy]
    refine tkQ 11 hHeld ?_
    try simp only [yy]
    refine tkQ 12 hHeld ?_
    try simp only [yy]
    refine tkQ 13 hHeld ?_
    try simp only [yy]
    refine tkQ 14 hHeld ?_
    try simp only [yy]
    refine' tkH 15 (v := _) rfl (by kernel_rfl) (fun _ _ _ h => h) (yieldsIf_load_mid (by rfl) _ _ rfl P 23 rfl (row8 c.mem) _ ?hS42 Tryz.underlying55 rfl sizeMb) hHeld ?_
    case hS42 => exact fun w h => h.range 23 _ (un_mem _ _)
    try simp only [yy]
    refine tkQ 16 hHeld ?_
    try simp only [yy]
    refine tkQ 17 hHeld ?_
    try simp only [yy]
    refine tkQ 18 hHeld ?_
    try simp only [yy]
    refine tkQ 19 hHeld ?_
    try simp only [yy]
    refine tkH 20 (v := ?v47) rfl (by kernel_rfl) (fun _ _ _ h => h) (Or.inl ⟨by rfl, ?hy47⟩) hHeld ?_
    case hy47 => (intro w hSw; have hc : w.cell? ⟨P, 0, none⟩ = some (.int .i64 (s : Int)) := (hSw.cell 0 (.int .i64 c.self) rfl).trans (by rw [hcs]); clear hSw; go_simp; try with_reducible rfl)
    try simp only [yy]
    refine rd1 21 (fun K hK => ?_)
    go_simp
    go_wp2_with (refine (pm _).mono ?_; rintro r u2 ⟨rfl, hb⟩)
    have hC2 := hC1.trans (hb.mono hC1.size)
    refine hK.out _ _ (hHeld.below hb) (fun hHeld => ?_)
    clear hK K hb hC1
    refine tkQ 22 hHeld ?_
    try simp only [yy]
    refine tkQ 23 hHeld ?_
    try simp only [yy]
    refine tkQ 24 hHeld ?_
    try simp only [yy]
    refine tkU 25 hHeld ?_
    try simp only [yy]
    refine tkU 26 hHeld ?_
    try simp only [yy]
    refine tkQ 27 hHeld ?_
    try simp only [yy]
    refine wpAnyH_done (by kernel_rfl) ?_ _
    go_wp2_with fail
    go_meet
    exact ⟨rfl, hHeld, hC2⟩
   | true =>
    obtain rfl : Z = !R := by rw [hR]; cases Z <;> rfl
    clear hR HR
    refine wp_region_held_drew (S := fun w' => Blk P (unc c (.slice ta Hs.length tk)) 166 w') (by kernel_rfl) bP.drew (fun hHeld => ?_)
    refine tkQ 0 hHeld ?_
    try simp only [yy]
    refine tkQ 1 hHeld ?_
    try simp only [yy]
    refine tkQ 2 hHeld ?_
    try simp only [yy]
    refine' tkH 3 (v := _) rfl (by kernel_rfl) (fun _ _ _ h => h) (yieldsIf_load_mid (by rfl) _ _ rfl P 0 rfl (col c) _ ?hS57 Tryz.underlying78 rfl sizeCo) hHeld ?_
    case hS57 => exact fun w h => h.range 0 _ (unc_core _ _)
    try simp only [yy]
    refine rd1 4 (fun K hK => ?_)
    go_simp
    go_wp2_with (refine (pg _).mono ?_; rintro r u1 ⟨rfl, hb⟩)
    have hC1 := hC0.trans (hb.mono hC0.size)
    refine hK.out _ _ (hHeld.below hb) (fun hHeld => ?_)
    clear hK K hb hC0
    refine tkQ 5 hHeld ?_
    try simp only [yy]
    refine tkQ 6 hHeld ?_
    try simp only [yy]
    refine tkQ 7 hHeld ?_
    try simp only [yy]
    refine tkQ 8 hHeld ?_
    try simp only [yy]
    refine tkQ 9 hHeld ?_
    try simp only [yy]
    refine' tkH 10 (v := _) rfl (by kernel_rfl) (fun _ _ _ h => h) (yieldsIf_load_mid (by rfl) _ _ rfl P 31 rfl (row8 c.count) _ ?hS63 Tryz.underlying60 rfl sizeCt) hHeld ?_
    case hS63 => exact fun w h => h.range 31 _ (un_count _ _)
    try simp only [yy]
    refine tkQ 11 hHeld ?_
    try simp only [yy]
    refine tkQ 12 hHeld ?_
    try simp only [yy]
    refine tkQ 13 hHeld ?_
    try simp only [yy]
    refine tkQ 14 hHeld ?_
    try simp only [yy]
    refine' tkH 15 (v := _) rfl (by kernel_rfl) (fun _ _ _ h => h) (yieldsIf_load_mid (by rfl) _ _ rfl P 23 rfl (row8 c.mem) _ ?hS68 Tryz.underlying55 rfl sizeMb) hHeld ?_
    case hS68 => exact fun w h => h.range 23 _ (un_mem _ _)
    try simp only [yy]
    refine tkQ 16 hHeld ?_
    try simp only [yy]
    refine tkQ 17 hHeld ?_
    try simp only [yy]
    refine tkQ 18 hHeld ?_
    try simp only [yy]
    refine tkQ 19 hHeld ?_
    try simp only [yy]
    refine tkH 20 (v := ?v73) rfl (by kernel_rfl) (fun _ _ _ h => h) (Or.inl ⟨by rfl, ?hy73⟩) hHeld ?_
    case hy73 => (intro w hSw; have hc : w.cell? ⟨P, 0, none⟩ = some (.int .i64 (s : Int)) := (hSw.cell 0 (.int .i64 c.self) rfl).trans (by rw [hcs]); clear hSw; go_simp; try with_reducible rfl)
    try simp only [yy]
    refine rd1 21 (fun K hK => ?_)
    go_simp
    go_wp2_with (refine (pm _).mono ?_; rintro r u2 ⟨rfl, hb⟩)
    have hC2 := hC1.trans (hb.mono hC1.size)
    refine hK.out _ _ (hHeld.below hb) (fun hHeld => ?_)
    clear hK K hb hC1
    refine tkQ 22 hHeld ?_
    try simp only [yy]
    refine tkQ 23 hHeld ?_
    try simp only [yy]
    refine tkQ 24 hHeld ?_
    try simp only [yy]
    refine tkQ 25 hHeld ?_
    try simp only [yy]
    refine tkQ 26 hHeld ?_
    try simp only [yy]
    refine tkQ 27 hHeld ?_
    try simp only [yy]
    refine wpAnyH_done (by kernel_rfl) ?_ _
    go_wp2_with fail
    go_meet
    exact ⟨rfl, hHeld, hC2⟩
 case rest =>
  obtain ⟨rfl, bP', hb⟩ := hcut
  clear bP hC0 pg pm
  rename World => w2
  have bP := bP'
  replace a0 := a0.below hb
  replace hB := hB.trans (hb.mono hB.size)
  clear bP' hb
  cases R with
  | false =>
   go_wp2_with fail
   go_ret
   exact ⟨rfl, fin_no _ hB HR.out⟩
  | true =>
   clear fin_no
   obtain ⟨rfl, rfl, rfl⟩ : g = false ∧ M = true ∧ Z = false := by revert hR; cases g <;> cases M <;> cases Z <;> simp
   have hZ' : o ≠ 4294967295 := of_decide_eq_false hZ
   obtain ⟨nx, hnx⟩ : ∃ v, o + 1 = v := ⟨_, rfl⟩
   have hw1 : IntKind.u32.wrap ((o : Int) + 1) = (nx : Int) := by rw [IntKind.wrap_u32]; omega
   have hnl : nx < 4294967296 := by omega
   obtain ⟨x, hx⟩ : ∃ x, (Kt.mk (s : Int) nx f hnl) = x := ⟨_, rfl⟩
   have hxk : nextK c f = x := by
    rw [← hx]
    unfold nextK
    have e : (ownN c + 1) % 4294967296 = nx := by rw [ho, hnx]; exact Nat.mod_eq_of_lt hnl
    simp only [hcs, e]
   have Hx : Hid ((Kt.mk (s : Int) nx f hnl) = x) := hx
   have htk : takesB c.count c.mem x = true := by
    have hm2 : isM c.mem (s : Int) = true := by
     have := hM
     unfold mayB at this
     rw [Bool.and_eq_true] at this
     exact this.1
    rw [← hx]
    unfold takesB
    rw [Bool.and_eq_true]
    refine ⟨hm2, ?_⟩
    rw [decide_eq_true_eq]
    show nx = c.count (s : Int).toNat + 1
    rw [Int.toNat_natCast, ← eo, ho]
    exact hnx.symm
   have HF : Hid (sendS ⟨c, L, Hs⟩ f = ⟨c.wCount (takeC c.count x), takeL L x, Hs ++ [takeH x]⟩) := by
    show sendS ⟨c, L, Hs⟩ f = _
    rw [sendS, HR.out, if_pos rfl, sentS, hxk]
   clear hR HR hM hZ hZ' kZ hx hxk hnx ho eo
   have hBs := hB.size
   replace hL := hL.below hB
   replace hG := hG.below hB
   go_upto_region 4 with fail
   have hal := a0.lt
   have hdr : w2.drew.heap.size = w2.heap.size := rfl
   have hC0 : Below w2.heap.size w2 w2.drew := (Below.refl _ _).drew
   go_cut [6] from 40 to 48 (fun v wx => ∃ Y, v = .pointer (some ⟨Y, 0, none⟩) ∧ w2.heap.size ≤ Y ∧ Blk Y (Kt.mk (s : Int) nx f hnl).arr 53 wx ∧ Blk P (unc c (.slice ta Hs.length tk)) 166 wx ∧ Below w2.heap.size w2 wx)
   case first =>
    clear hL hG HF
    refine wp_region_held_drew (S := fun w' => Blk P (unc c (.slice ta Hs.length tk)) 166 w' ∧ Blk w.heap.size (frc f) 43 w') (by kernel_rfl) ⟨bP.drew, a0.drew⟩ (fun hHeld => ?_)
    refine tkQ 0 hHeld ?_
    try simp only [yy]
    refine tkQ 1 hHeld ?_
    try simp only [yy]
    refine tkQ 2 hHeld ?_
    try simp only [yy]
    refine tkQ 3 hHeld ?_
    try simp only [yy]
    refine tkH 4 (v := ?v84) rfl (by kernel_rfl) (fun _ _ _ h => h) (Or.inl ⟨by rfl, ?hy84⟩) hHeld ?_
    case hy84 => (intro w hSw; have hc : w.cell? ⟨P, 0, none⟩ = some (.int .i64 (s : Int)) := (hSw.1.cell 0 (.int .i64 c.self) rfl).trans (by rw [hcs]); clear hSw; go_simp; try with_reducible rfl)
    try simp only [yy]
    refine tkQ 5 hHeld ?_
    try simp only [yy]
    refine tkQ 6 hHeld ?_
    try simp only [yy]
    refine' tkH 7 (v := _) rfl (by kernel_rfl) (fun _ _ _ h => h) (yieldsIf_load_mid (by rfl) _ _ rfl w.heap.size 0 rfl (frv f) _ ?hS87 Tryz.underlying43 rfl sizeFr) hHeld ?_
    case hS87 => exact fun w h => h.2.whole
    try simp only [yy]
    refine wpAnyH_take (i := 8) (v := .agg (Kt.mk (s : Int) nx f hnl).arr) rfl (by kernel_rfl) (by kernel_rfl) (by kernel_rfl) (fun _ _ _ h => h) (yields_build (by rfl) 53 #[(0, .tmp 44), (1, .tmp 46), (2, .tmp 47)] rfl (by kernel_rfl)) hHeld ?_
    try simp only [yy]
    refine rd1 9 (fun K hK => ?_)
    rw [if_pos (by rfl)]
    refine wp_alloc_any zeroKt rfl ?_
    intro yp u1 y1 hb yl yt
    have yg := Nat.le_trans hC0.size yl
    have hC1 := hC0.trans (hb.mono hC0.size)
    refine hK.out _ _ ⟨hHeld.1.below hb, hHeld.2.below hb⟩ (fun hHeld => ?_)
    clear hK K hb hC0
    try simp only [yy]
    refine rd1 10 (fun K hK => ?_)
    rw [if_pos (by rfl)]
    refine wp_store_all 53 _ _ rfl (cells := (Kt.mk (s : Int) nx f hnl).arr) y1 rfl rfl sizeKt rfl (Kt.arr_one _) ?_
    intro u2 hn hk
    have hC2 := hC1.trans (hk.below (by simp <;> omega) hC1.size)
    have y2 := hn
    refine hK.out _ _ ⟨hHeld.1.kp hk (by simp <;> omega), hHeld.2.kp hk (by simp <;> omega)⟩ (fun hHeld => ?_)
    clear hK K hk hn hC1 y1
    try simp only [yy]
    refine wpAnyH_done (by kernel_rfl) ?_ _
    go_wp2_with fail
    go_meet
    exact ⟨yp, rfl, yg, y2, hHeld.1, hC2⟩
   case rest =>
    obtain ⟨Y, rfl, hY, y0, bP', hb⟩ := hcut
    rw [Hx.out] at y0
    clear bP hC0 Hx hw1
    rename World => w3
    have bP := bP'.drew
    have hY0 := y0.drew
    replace hL := (hL.below hb).below (Below.refl _ _).drew
    replace hG := (hG.below hb).below (Below.refl _ _).drew
    replace hB : Below w.heap.size w w3.drew := (hB.trans (hb.mono hB.size)).drew
    have hPw2 : P < w2.heap.size := Nat.lt_of_lt_of_le hP hBs
    clear bP' y0 hb
    have hP3 : P < w3.drew.heap.size := bP.lt
    have hW3 : w.heap.size ≤ w3.drew.heap.size := hB.size
    go_upto_region 5 with fail
    refine wp_region_held_drew (S := fun w' => (∃ x1 a1 n1 k1, Blk P (unc (Co.mk c.self c.wait c.own c.beat c.conf c.mem x1 a1 n1 k1 c.pr c.want c.cut c.rdy c.peers c.epoch) (.slice ta Hs.length tk)) 166 w') ∧ Blk Y x.arr 53 w') (by kernel_rfl) ⟨⟨_, _, _, _, bP⟩, hY0⟩ (fun hHeld => ?_)
    refine tkQ 0 hHeld ?_
    try simp only [yy]
    refine tkQ 1 hHeld ?_
    try simp only [yy]
    refine tkQ 2 hHeld ?_
    try simp only [yy]
    refine tkQ 3 hHeld ?_
    try simp only [yy]
    refine tkQ 4 hHeld ?_
    try simp only [yy]
    refine tkQ 5 hHeld ?_
    try simp only [yy]
    refine tkQ 7 hHeld ?_
    try simp only [yy]
    refine tkQ 8 hHeld ?_
    try simp only [yy]
    refine tkQ 9 hHeld ?_
    try simp only [yy]
    refine tkQ 10 hHeld ?_
    try simp only [yy]
    refine tkQ 12 hHeld ?_
    try simp only [yy]
    refine tkQ 13 hHeld ?_
    try simp only [yy]
    refine tkQ 14 hHeld ?_
    try simp only [yy]
    refine tkQ 15 hHeld ?_
    try simp only [yy]
    refine' tkH 16 (v := _) rfl (by kernel_rfl) (fun _ _ _ h => h) (yieldsIf_load_mid (by rfl) _ _ rfl P 23 rfl (row8 c.mem) _ ?hS103 Tryz.underlying55 rfl sizeMb) hHeld ?_
    case hS103 => exact fun w h => (by obtain ⟨⟨x1, a1, n1, k1, h⟩, _⟩ := h; exact h.range 23 _ (un_mem _ _))
    try simp only [yy]
    refine' tkH 17 (v := _) rfl (by kernel_rfl) (fun _ _ _ h => h) (yieldsIf_load_mid (by rfl) _ _ rfl Y 0 rfl x.vals _ ?hS104 Tryz.underlying53 rfl sizeKt) hHeld ?_
    case hS104 => exact fun w h => h.2.whole
    try simp only [yy]
    refine wpAnyH_ready (rs := [6, 11]) (by kernel_rfl) (by simp) ?_
    refine AllReadyH.cons rfl (fun K hK => ?_) (AllReadyH.cons rfl (fun K hK => ?_) (AllReadyH.nil))
    ·rw [if_pos (by rfl)]
     refine wp_load_cell 73 _ rfl (.slice c.ka L.length c.kc) rfl ((bP.cell 39 (.slice c.ka c.kn c.kc) rfl).trans (by rw [hn])) Tryz.underlying73 rfl ?_
     refine hK.out _ _ hHeld (fun hHeld => ?_)
     clear hK K 
     try simp only [yy]
     refine rd1 11 (fun K hK => ?_)
     rw [if_pos (by rfl)]
     refine wp_load_part 60 _ rfl (o := 31) bP rfl (row8 c.count) (un_count _ _) Tryz.underlying60 rfl sizeCt ?_
     refine hK.out _ _ hHeld (fun hHeld => ?_)
     clear hK K 
     try simp only [yy]
     refine rd1 18 (fun K hK => ?_)
     go_simp
     go_wp2_with (refine (take_yes L c.ka c.kc c.count c.mem x hc hl htk _ (hL.mono (Nat.zero_le _))).mono ?_; rintro r u3 ⟨⟨a2, k2, rfl, hL2⟩, hb⟩)
     replace bP := bP.below hb
     replace hG := hG.below hb
     replace hB := hB.trans (hb.mono hB.size)
     have hPv := bP.lt
     refine hK.out _ _ ⟨⟨_, _, _, _, bP⟩, hHeld.2.below hb⟩ (fun hHeld => ?_)
     clear hK K hL
     refine tkQ 19 hHeld ?_
     try simp only [yy]
     refine tkQ 20 hHeld ?_
     try simp only [yy]
     refine tkQ 21 hHeld ?_
     try simp only [yy]
     refine tkQ 22 hHeld ?_
     try simp only [yy]
     refine tkQ 23 hHeld ?_
     try simp only [yy]
     refine tkQ 24 hHeld ?_
     try simp only [yy]
     refine tkQ 25 hHeld ?_
     try simp only [yy]
     refine rd1 26 (fun K hK => ?_)
     rw [if_pos (by rfl)]
     refine wp_store_one 73 _ _ rfl (off := 39) (.slice a2 (takeL L x).length k2) bP rfl rfl rfl rfl sizeSl (by rw [unc_size]; decide) ?_
     intro u4 hn9 hk9
     rw [unc_set _ _ _ 39 _ (Co.s_kept c a2 (takeL L x).length k2) (by decide)] at hn9
     replace bP := hn9
     have kP := hk9
     replace hG := hG.kp hk9 (by simp)
     replace hL2 := hL2.off hk9 (fun x hx => by simp at hx; subst hx; exact Off.li hL2 _ (.inl (by omega)))
     refine hK.out _ _ ⟨⟨_, _, _, _, bP⟩, hHeld.2.kp1 hk9 (by omega)⟩ (fun hHeld => ?_)
     clear hK K hn9 hk9
     try simp only [yy]
     refine tkQ 27 hHeld ?_
     try simp only [yy]
     refine tkQ 28 hHeld ?_
     try simp only [yy]
     refine tkQ 29 hHeld ?_
     try simp only [yy]
     refine rd1 30 (fun K hK => ?_)
     rw [if_pos (by rfl)]
     refine wp_store_part 60 _ _ rfl (off := 31) (cells := (mbc (takeC c.count x))) bP rfl rfl sizeCt (show 31 + 8 ≤ 190 by decide) (mbc_one _) ?_
     intro u5 hn9 hk9
     rw [unc_put _ _ _ 31 _ (Co.s_count _ (takeC c.count x)) (show 31 + 8 ≤ 189 by decide)] at hn9
     replace bP := hn9
     replace kP := kP.trans (hk9.mono (fun i hi => by simp at hi; simp [hi]))
     replace hG := hG.kp hk9 (by simp)
     replace hL2 := hL2.off hk9 (fun x hx => by simp at hx; subst hx; exact Off.li hL2 _ (.inl (by omega)))
     refine hK.out _ _ ⟨⟨_, _, _, _, bP⟩, hHeld.2.kp1 hk9 (by omega)⟩ (fun hHeld => ?_)
     clear hK K hn9 hk9
     try simp only [yy]
     refine wpAnyH_done (by kernel_rfl) ?_ _
     have y1 := hHeld.2
     clear hHeld
     go_upto_region 6 with fail
     go_wp2_with (refine load_blk rfl 53 _ rfl y1 rfl Tryz.underlying53 rfl sizeKt ?_)
     refine (tell_ok P _ ta tk Hs x ht _ bP hG).mono ?_
     rintro r w9 ⟨rfl, ta', tk', h1, h2, h3, h4⟩
     go_wp2_with fail
     go_ret
     have hkz := kP.size
     exact ⟨rfl, Uv.sim (s := sendS ⟨c, L, Hs⟩ f) (by
      rw [HF.out]
      refine ⟨a2, k2, ta', tk', h1, ?_, h2, ?_, ?_⟩
      ·exact (hL2.off h3 (fun y hy => by
        rcases List.mem_cons.1 hy with rfl | hy
        ·exact Off.li hL2 _ (.inl (by omega))
        ·exact Off.li hL2 _ (.inl (by have := hin y hy; omega)))).mono (by omega)
      ·exact Off.li hL2 _ (.inl (by omega))
      ·intro y hy
       rcases h4 y hy with h | h
       ·exact Off.li hL2 _ (.inl (by have := hin y h; omega))
       ·exact Off.li hL2 _ (.inr h)) HS.1, (hB.mono (by omega)).trans ((kP.below1 (Nat.le_refl _) (by omega)).trans (h3.below (fun y hy => by
        rcases List.mem_cons.1 hy with rfl | hy
        ·exact Nat.le_refl _
        ·have := hin y hy; omega) (by omega)))⟩
    ·rw [if_pos (by rfl)]
     refine wp_load_part 60 _ rfl (o := 31) bP rfl (row8 c.count) (un_count _ _) Tryz.underlying60 rfl sizeCt ?_
     refine hK.out _ _ hHeld (fun hHeld => ?_)
     clear hK K 
     try simp only [yy]
     refine rd1 6 (fun K hK => ?_)
     rw [if_pos (by rfl)]
     refine wp_load_cell 73 _ rfl (.slice c.ka L.length c.kc) rfl ((bP.cell 39 (.slice c.ka c.kn c.kc) rfl).trans (by rw [hn])) Tryz.underlying73 rfl ?_
     refine hK.out _ _ hHeld (fun hHeld => ?_)
     clear hK K 
     try simp only [yy]
     refine rd1 18 (fun K hK => ?_)
     go_simp
     go_wp2_with (refine (take_yes L c.ka c.kc c.count c.mem x hc hl htk _ (hL.mono (Nat.zero_le _))).mono ?_; rintro r u8 ⟨⟨a2, k2, rfl, hL2⟩, hb⟩)
     replace bP := bP.below hb
     replace hG := hG.below hb
     replace hB := hB.trans (hb.mono hB.size)
     have hPv := bP.lt
     refine hK.out _ _ ⟨⟨_, _, _, _, bP⟩, hHeld.2.below hb⟩ (fun hHeld => ?_)
     clear hK K hL
     refine tkQ 19 hHeld ?_
     try simp only [yy]
     refine tkQ 20 hHeld ?_
     try simp only [yy]
     refine tkQ 21 hHeld ?_
     try simp only [yy]
     refine tkQ 22 hHeld ?_
     try simp only [yy]
     refine tkQ 23 hHeld ?_
     try simp only [yy]
     refine tkQ 24 hHeld ?_
     try simp only [yy]
     refine tkQ 25 hHeld ?_
     try simp only [yy]
     refine rd1 26 (fun K hK => ?_)
     rw [if_pos (by rfl)]
     refine wp_store_one 73 _ _ rfl (off := 39) (.slice a2 (takeL L x).length k2) bP rfl rfl rfl rfl sizeSl (by rw [unc_size]; decide) ?_
     intro u9 hn9 hk9
     rw [unc_set _ _ _ 39 _ (Co.s_kept c a2 (takeL L x).length k2) (by decide)] at hn9
     replace bP := hn9
     have kP := hk9
     replace hG := hG.kp hk9 (by simp)
     replace hL2 := hL2.off hk9 (fun x hx => by simp at hx; subst hx; exact Off.li hL2 _ (.inl (by omega)))
     refine hK.out _ _ ⟨⟨_, _, _, _, bP⟩, hHeld.2.kp1 hk9 (by omega)⟩ (fun hHeld => ?_)
     clear hK K hn9 hk9
     try simp only [yy]
     refine tkQ 27 hHeld ?_
     try simp only [yy]
     refine tkQ 28 hHeld ?_
     try simp only [yy]
     refine tkQ 29 hHeld ?_
     try simp only [yy]
     refine rd1 30 (fun K hK => ?_)
     rw [if_pos (by rfl)]
     refine wp_store_part 60 _ _ rfl (off := 31) (cells := (mbc (takeC c.count x))) bP rfl rfl sizeCt (show 31 + 8 ≤ 190 by decide) (mbc_one _) ?_
     intro u10 hn9 hk9
     rw [unc_put _ _ _ 31 _ (Co.s_count _ (takeC c.count x)) (show 31 + 8 ≤ 189 by decide)] at hn9
     replace bP := hn9
     replace kP := kP.trans (hk9.mono (fun i hi => by simp at hi; simp [hi]))
     replace hG := hG.kp hk9 (by simp)
     replace hL2 := hL2.off hk9 (fun x hx => by simp at hx; subst hx; exact Off.li hL2 _ (.inl (by omega)))
     refine hK.out _ _ ⟨⟨_, _, _, _, bP⟩, hHeld.2.kp1 hk9 (by omega)⟩ (fun hHeld => ?_)
     clear hK K hn9 hk9
     try simp only [yy]
     refine wpAnyH_done (by kernel_rfl) ?_ _
     have y1 := hHeld.2
     clear hHeld
     go_upto_region 6 with fail
     go_wp2_with (refine load_blk rfl 53 _ rfl y1 rfl Tryz.underlying53 rfl sizeKt ?_)
     refine (tell_ok P _ ta tk Hs x ht _ bP hG).mono ?_
     rintro r w9 ⟨rfl, ta', tk', h1, h2, h3, h4⟩
     go_wp2_with fail
     go_ret
     have hkz := kP.size
     exact ⟨rfl, Uv.sim (s := sendS ⟨c, L, Hs⟩ f) (by
      rw [HF.out]
      refine ⟨a2, k2, ta', tk', h1, ?_, h2, ?_, ?_⟩
      ·exact (hL2.off h3 (fun y hy => by
        rcases List.mem_cons.1 hy with rfl | hy
        ·exact Off.li hL2 _ (.inl (by omega))
        ·exact Off.li hL2 _ (.inl (by have := hin y hy; omega)))).mono (by omega)
      ·exact Off.li hL2 _ (.inl (by omega))
      ·intro y hy
       rcases h4 y hy with h | h
       ·exact Off.li hL2 _ (.inl (by have := hin y h; omega))
       ·exact Off.li hL2 _ (.inr h)) HS.1, (hB.mono (by omega)).trans ((kP.below1 (Nat.le_refl _) (by omega)).trans (h3.below (fun y hy => by
        rcases List.mem_cons.1 hy with rfl | hy
        ·exact Nat.le_refl _
        ·have := hin y hy; omega) (by omega)))⟩
end Go.Proofs.YthgfpdidilolgaaGreat
