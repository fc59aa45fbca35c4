/-
  What is known of a daemon behind its packet, whether what it promised is taken: what each call answers, and the document's.
  No condition.
-/
import Derived.Test.YthgmecgknhphmaaGaA
import Derived.Test.YthgmecgknhphmaaImR
import Derived.Test.YthgmecgknhphmaaCtV
namespace Go.Proofs.Ythgmecgknhphmaa
set_option maxRecDepth 10000
set_option linter.unusedSimpArgs false
open Go.RowKit Go.Sort
set_option linter.unusedVariables false

theorem builtT (p : Pk) : Try.prog.built 32 [(0, .int .u32 (p.n 1 : Int)), (1, .agg p.conf.vals.toArray), (2, .agg p.pr.vals.toArray), (3, .agg (row8 p.count).toArray), (4, .bool p.r)] = some (told p).arr := builtPe _ _ _ _ _
theorem ordP_cases (x y : Pe) : ordP x y = -1 ∨ ordP x y = 1 ∨ ordP x y = 0 := by
  unfold ordP
  rcases cmpN_cases y.inc x.inc with ⟨_, g⟩ | ⟨_, g⟩ | ⟨_, g⟩ <;> rcases cmpId_cases y.pr x.pr with ⟨_, h⟩ | ⟨_, h⟩ | ⟨_, h⟩ <;> rw [g, h] <;> decide
theorem runion2_ok (a b : Nat → Nat) {g : Nat} {u : World} (h : Blk g (flat row8 [a, b]).toArray 29 u) : Calls Try.prog 86 #[.slice (some ⟨g, 0, none⟩) 2 2] u fun e w' => e = .returned (.agg (mbc (maxC a b))) ∧ Below u.heap.size u w' := by
  rw [← union_two]
  exact runion_ok [a, b] _ 2 (by simp) u (li_whole h (Nat.zero_le _))

set_option maxHeartbeats 4000000 in
theorem update_ok (x : Pe) (p : Pk) (w : World) : Calls Try.prog 48 #[.agg x.arr, .agg (pkc p)] w fun e w' => e = .returned (.agg (updP x (told p)).arr) ∧ Below w.heap.size w w' := by
  obtain ⟨a0, a1, a2, hB⟩ := three_blk (T0 := 32) (T1 := 50) (T2 := 32) (C0 := x.arr) (C1 := pkc p) (C2 := Pe.zero.arr) (w := w) rfl
  obtain ⟨R, HR⟩ : ∃ R, Hid (updP x (told p) = R) := ⟨_, rfl⟩
  rw [HR.out]
  have h3 := ordP_cases x (told p)
  obtain ⟨k, hk⟩ : ∃ k, orI [cmpN (told p).inc x.inc, cmpId p.pr x.pr] = k := ⟨_, rfl⟩
  have hk2 : ordP x (told p) = k := hk
  rw [hk2] at h3
  have p0 := cmpN_ok (told p).inc x.inc
  have p1 := cmp_ok p.pr x.pr
  have pt := together_ok x (told p)
  go_enter Try.func48, Try.ntmps48
  go_upto_region 1 with (refine alloc_zero zeroPe rfl rfl ?_)
  try simp only [Act.put, List.setIfInBounds_toArray, List.set_cons_zero, List.set_cons_succ]
  try simp only [alloc_size]
  generalize ((w.alloc (Obj.cells x.arr 32)).alloc (Obj.cells (pkc p) 50)).alloc (Obj.cells Pe.zero.arr 32) = W at a0 a1 a2 hB ⊢
  have c1 := a1.cell 1 (.int .u32 (p.n 1 : Int)) rfl
  have c2 := a1.cell 32 (.bool p.r) rfl
  have hb := below_box W (.cells (told p).arr 32)
  have a3 := blk_new W (told p).arr 32
  go_upto_region 2 with (first | refine load_part rfl 27 _ rfl (o := 2) a1 rfl p.conf.vals p.p_conf Try.underlying27 rfl sizeIdn ?_ | refine load_part rfl 27 _ rfl (o := 21) a1 rfl p.pr.vals p.p_pr Try.underlying27 rfl sizeIdn ?_ | refine load_part rfl 29 _ rfl (o := 13) a1 rfl (row8 p.count) p.p_count Try.underlying29 rfl sizeCt ?_ | (refine build_as rfl 32 #[(0, .tmp 7), (1, .tmp 9), (2, .tmp 11), (3, .tmp 13), (4, .tmp 15)] rfl (C := (told p).arr) ?_ ?_; kernel_rfl) | refine alloc_zero zeroPe rfl rfl ?_ | refine store_new rfl 32 _ _ rfl (cells := (told p).arr) rfl rfl sizePe rfl (Pe.arr_one _) ?_)
  try simp only [Act.put, List.setIfInBounds_toArray, List.set_cons_zero, List.set_cons_succ]
  generalize W.alloc (Obj.cells (told p).arr 32) = W2 at a3 hb ⊢
  replace a0 := a0.below hb
  replace a1 := a1.below hb
  replace a2 := a2.below hb
  replace hB := hB.trans (hb.mono hB.size)
  clear hb 
  generalize W.heap.size = V at a3 ⊢
  clear c1 c2 a1
  have hC0 := hB.drew
  have q0 := a2.drew
  refine wp_region_held_drew (S := fun w' => Blk w.heap.size x.arr 32 w' ∧ Blk V (told p).arr 32 w') (by kernel_rfl) ⟨a0.drew, a3.drew⟩ (fun hHeld => ?_)
  refine tkH 0 (v := ?v1) rfl (by kernel_rfl) (fun _ _ _ h => h) (Or.inl ⟨by rfl, ?hy1⟩) hHeld ?rest1
  case hy1 => (intro w hSw; clear hSw; go_simp; try with_reducible rfl)
  try simp only [List.getElem_toArray, List.getElem_cons_succ, List.getElem_cons_zero, Act.put, List.setIfInBounds_toArray, List.set_cons_succ, List.set_cons_zero]
  refine tkH 1 (v := ?v2) rfl (by kernel_rfl) (fun _ _ _ h => h) (Or.inl ⟨by rfl, ?hy2⟩) hHeld ?rest2
  case hy2 => (intro w hSw; have hc := hSw.2.cell 0 (.int .u32 (p.n 1 : Int)) rfl; clear hSw; go_simp; try with_reducible rfl)
  try simp only [List.getElem_toArray, List.getElem_cons_succ, List.getElem_cons_zero, Act.put, List.setIfInBounds_toArray, List.set_cons_succ, List.set_cons_zero]
  refine tkH 2 (v := ?v3) rfl (by kernel_rfl) (fun _ _ _ h => h) (Or.inl ⟨by rfl, ?hy3⟩) hHeld ?rest3
  case hy3 => (intro w hSw; clear hSw; go_simp; try with_reducible rfl)
  try simp only [List.getElem_toArray, List.getElem_cons_succ, List.getElem_cons_zero, Act.put, List.setIfInBounds_toArray, List.set_cons_succ, List.set_cons_zero]
  refine tkH 3 (v := ?v4) rfl (by kernel_rfl) (fun _ _ _ h => h) (Or.inl ⟨by rfl, ?hy4⟩) hHeld ?rest4
  case hy4 => (intro w hSw; have hc := hSw.1.cell 0 (.int .u32 (x.inc : Int)) rfl; clear hSw; go_simp; try with_reducible rfl)
  try simp only [List.getElem_toArray, List.getElem_cons_succ, List.getElem_cons_zero, Act.put, List.setIfInBounds_toArray, List.set_cons_succ, List.set_cons_zero]
  refine tkH 5 (v := ?v5) rfl (by kernel_rfl) (fun _ _ _ h => h) (Or.inl ⟨by rfl, ?hy5⟩) hHeld ?rest5
  case hy5 => (intro w hSw; clear hSw; go_simp; try with_reducible rfl)
  try simp only [List.getElem_toArray, List.getElem_cons_succ, List.getElem_cons_zero, Act.put, List.setIfInBounds_toArray, List.set_cons_succ, List.set_cons_zero]
  refine' tkH 6 (v := _) rfl (by kernel_rfl) (fun _ _ _ h => h) (yieldsIf_load_mid (by rfl) _ _ rfl V 4 rfl p.pr.vals _ ?hS6 Try.underlying27 rfl sizeIdn) hHeld ?rest6
  case hS6 => exact fun w h => h.2.range 4 p.pr.vals (told p).p_pr
  try simp only [List.getElem_toArray, List.getElem_cons_succ, List.getElem_cons_zero, Act.put, List.setIfInBounds_toArray, List.set_cons_succ, List.set_cons_zero]
  refine tkH 7 (v := ?v7) rfl (by kernel_rfl) (fun _ _ _ h => h) (Or.inl ⟨by rfl, ?hy7⟩) hHeld ?rest7
  case hy7 => (intro w hSw; clear hSw; go_simp; try with_reducible rfl)
  try simp only [List.getElem_toArray, List.getElem_cons_succ, List.getElem_cons_zero, Act.put, List.setIfInBounds_toArray, List.set_cons_succ, List.set_cons_zero]
  refine' tkH 8 (v := _) rfl (by kernel_rfl) (fun _ _ _ h => h) (yieldsIf_load_mid (by rfl) _ _ rfl w.heap.size 4 rfl x.pr.vals _ ?hS8 Try.underlying27 rfl sizeIdn) hHeld ?rest8
  case hS8 => exact fun w h => h.1.range 4 x.pr.vals x.p_pr
  try simp only [List.getElem_toArray, List.getElem_cons_succ, List.getElem_cons_zero, Act.put, List.setIfInBounds_toArray, List.set_cons_succ, List.set_cons_zero]
  refine wpAnyH_ready (rs := [4]) (by kernel_rfl) (by simp) ?_
  refine AllReadyH.cons rfl (fun K hK => ?_) (AllReadyH.nil)
  go_simp
  go_wp2_with (refine (p0 _).mono ?_; rintro r w' ⟨rfl, rfl⟩)
  refine hK.out _ _ hHeld (fun hHeld => ?_)
  clear hK K
  refine wpAnyH_ready (rs := [9]) (by kernel_rfl) (by simp) ?_
  refine AllReadyH.cons rfl (fun K hK => ?_) (AllReadyH.nil)
  go_simp
  go_wp2_with (refine (p1 _).mono ?_; rintro r u1 ⟨rfl, hb⟩)
  have q1 := q0.below hb
  have hC1 := hC0.trans (hb.mono hC0.size)
  refine hK.out _ _ ⟨hHeld.1.below hb, hHeld.2.below hb⟩ (fun hHeld => ?_)
  clear hK K hb q0 hC0
  refine wpAnyH_ready (rs := [10]) (by kernel_rfl) (by simp) ?_
  refine AllReadyH.cons rfl (fun K hK => ?_) (AllReadyH.nil)
  rw [if_pos (by rfl)]
  refine wp_ints2 _ _ rfl (cmpN (told p).inc x.inc) (cmpId p.pr x.pr) rfl rfl ?_
  intro gp u2 g2 hb gl
  have gg := Nat.le_trans hC1.size gl
  have q2 := q1.below hb
  have hC2 := hC1.trans (hb.mono hC1.size)
  refine hK.out _ _ ⟨hHeld.1.below hb, hHeld.2.below hb⟩ (fun hHeld => ?_)
  clear hK K hb q1 hC1
  try simp only [List.getElem_toArray, List.getElem_cons_succ, List.getElem_cons_zero, Act.put, List.setIfInBounds_toArray, List.set_cons_succ, List.set_cons_zero]
  refine wpAnyH_ready (rs := [11]) (by kernel_rfl) (by simp) ?_
  refine AllReadyH.cons rfl (fun K hK => ?_) (AllReadyH.nil)
  go_simp
  go_wp2_with (refine (or2_ok (cmpN (told p).inc x.inc) (cmpId p.pr x.pr) g2).mono ?_; rintro r w' ⟨rfl, rfl⟩)
  refine hK.out _ _ hHeld (fun hHeld => ?_)
  clear hK K
  refine wpAnyH_done (by kernel_rfl) ?_ _
  have a0 := hHeld.1
  have a3 := hHeld.2
  have a2 := q2
  have hB := hC2
  clear hHeld q2 hC2 g2 gl p0 p1
  rw [hk] at *
  clear hk
  rcases h3 with rfl | rfl | rfl
  · obtain rfl : R = x := by rw [← HR.out]; simp [updP, hk2]
    clear HR hk2 pt
    go_wp2_with (first | refine load_blk rfl 32 _ rfl a0 rfl Try.underlying32 rfl sizePe ?_ | (refine store_part rfl 32 _ _ rfl (off := 0) (cells := R.arr) a2 rfl rfl sizePe (Nat.le_refl _) (Pe.arr_one _) ?_; intro w9 b9 k9; rw [Pe.all] at b9; have hB9 : Below w.heap.size w w9 := hB.trans (k9.below1 (by omega) hB.size)))
    exact bodyPost_ret (w := w9) (v := .agg R.arr) (ret_one rfl rfl b9 Try.underlying32 rfl sizePe) rfl ⟨rfl, hB9⟩
  · have e : told p = R := by rw [← HR.out]; simp [updP, hk2]
    rw [e] at a3
    clear HR hk2 pt e
    go_wp2_with (first | refine load_blk rfl 32 _ rfl a3 rfl Try.underlying32 rfl sizePe ?_ | (refine store_part rfl 32 _ _ rfl (off := 0) (cells := R.arr) a2 rfl rfl sizePe (Nat.le_refl _) (Pe.arr_one _) ?_; intro w9 b9 k9; rw [Pe.all] at b9; have hB9 : Below w.heap.size w w9 := hB.trans (k9.below1 (by omega) hB.size)))
    exact bodyPost_ret (w := w9) (v := .agg R.arr) (ret_one rfl rfl b9 Try.underlying32 rfl sizePe) rfl ⟨rfl, hB9⟩
  · have e : togP x (told p) = R := by rw [← HR.out]; simp [updP, hk2]
    rw [e] at pt
    clear HR hk2 e
    go_wp2_with (first | refine load_blk rfl 32 _ rfl a0 rfl Try.underlying32 rfl sizePe ?_ | refine load_blk rfl 32 _ rfl a3 rfl Try.underlying32 rfl sizePe ?_)
    refine (pt _).mono ?_
    rintro r w5 ⟨rfl, hb⟩
    replace a2 := a2.below hb
    replace hB := hB.trans (hb.mono hB.size)
    clear hb pt
    go_wp2_with ((refine store_part rfl 32 _ _ rfl (off := 0) (cells := R.arr) a2 rfl rfl sizePe (Nat.le_refl _) (Pe.arr_one _) ?_; intro w9 b9 k9; rw [Pe.all] at b9; have hB9 : Below w.heap.size w w9 := hB.trans (k9.below1 (by omega) hB.size)))
    exact bodyPost_ret (w := w9) (v := .agg R.arr) (ret_one rfl rfl b9 Try.underlying32 rfl sizePe) rfl ⟨rfl, hB9⟩

set_option maxHeartbeats 4000000 in
theorem adopt_ok (a : Idn) (i : Int) (n : Nat) (p : Pk) (w : World) : Calls Try.prog 49 #[.agg a.arr, .int .i64 i, .int .u32 (n : Int), .agg (pkc p)] w fun e w' => e = .returned (.bool (adoptB a i n p)) ∧ Below w.heap.size w w' := by
  obtain ⟨a0, a1, hB⟩ := two_blk (T0 := 27) (T1 := 50) (C0 := a.arr) (C1 := pkc p) (w := w) rfl
  obtain ⟨R, HR⟩ : ∃ R, Hid (adoptB a i n p = R) := ⟨_, rfl⟩
  rw [HR.out]
  have pc := cmp_ok p.pr a
  have ph := has_ok p.want i n
  generalize hk : cmpId p.pr a = k at *
  go_enter Try.func49, Try.ntmps49
  go_upto_region 1 with fail
  generalize (w.alloc (Obj.cells a.arr 27)).alloc (Obj.cells (pkc p) 50) = W at a0 a1 hB ⊢
  go_wp2_with (first | refine load_part rfl 27 _ rfl (o := 21) a1 rfl p.pr.vals p.p_pr Try.underlying27 rfl sizeIdn ?_ | refine load_blk rfl 27 _ rfl a0 rfl Try.underlying27 rfl sizeIdn ?_)
  refine (pc _).mono ?_
  rintro r w1 ⟨rfl, hb⟩
  replace a1 := a1.below hb
  replace hB := hB.trans (hb.mono hB.size)
  clear hb pc a0
  by_cases h : 0 < k
  · have e : hasM p.want i n = R := by rw [← HR.out]; simp [adoptB, hk, h]
    rw [e] at ph
    clear HR hk e
    go_wp2_with (refine load_wpart rfl 28 _ rfl (o := 24) a1 rfl (row8 p.want) p.p_want Try.underlying28 rfl sizeMb ?_)
    refine (ph _).mono ?_
    rintro r w2 ⟨rfl, hb⟩
    replace hB := hB.trans (hb.mono hB.size)
    clear hb ph a1
    go_wp2_with fail
    go_ret
    exact ⟨rfl, hB⟩
  · obtain rfl : R = false := by rw [← HR.out]; simp [adoptB, hk, h]
    clear HR hk ph
    go_wp2_with fail
    go_ret
    exact ⟨rfl, hB⟩

set_option maxHeartbeats 4000000 in
theorem radopt_ok (a : Idn) (i : Int) (n : Nat) (p : Pk) (w : World) : Calls Try.prog 54 #[.agg a.arr, .int .i64 i, .int .u32 (n : Int), .agg (pkc p)] w fun e w' => e = .returned (.bool (adoptB a i n p)) ∧ Below w.heap.size w w' := by
  obtain ⟨a0, a1, hB⟩ := two_blk (T0 := 27) (T1 := 50) (C0 := a.arr) (C1 := pkc p) (w := w) rfl
  obtain ⟨R, HR⟩ : ∃ R, Hid (adoptB a i n p = R) := ⟨_, rfl⟩
  rw [HR.out]
  have pc := rcmp_ok p.pr a
  have h3 := cmpId_cases p.pr a
  generalize hk : cmpId p.pr a = k at *
  have h4 : k = -1 ∨ k = 1 ∨ k = 0 := by rcases h3 with ⟨_, h⟩ | ⟨_, h⟩ | ⟨_, h⟩ <;> simp [h]
  clear h3
  go_enter Try.func54, Try.ntmps54
  go_upto_region 1 with fail
  generalize (w.alloc (Obj.cells a.arr 27)).alloc (Obj.cells (pkc p) 50) = W at a0 a1 hB ⊢
  by_cases h0 : i < 0
  · obtain rfl : R = false := by rw [← HR.out]; simp [adoptB, hasM, show ¬ 0 ≤ i by omega]
    clear HR hk pc h4 a0 a1
    go_wp2_with fail
    go_ret
    exact ⟨rfl, hB⟩
  by_cases h1 : 7 < i
  · obtain rfl : R = false := by rw [← HR.out]; simp [adoptB, hasM, show ¬ i < 8 by omega]
    clear HR hk pc h4 a0 a1
    go_wp2_with fail
    go_ret
    exact ⟨rfl, hB⟩
  obtain ⟨j, rfl⟩ : ∃ j : Nat, i = (j : Int) := ⟨i.toNat, by omega⟩
  by_cases h2 : n = 0
  · obtain rfl : R = false := by rw [← HR.out]; simp [adoptB, hasM, h2]
    subst h2
    clear HR hk pc h4 a0 a1
    go_wp2_with fail
    go_ret
    exact ⟨rfl, hB⟩
  have hn : ((n : Int) == 0) = false := by rw [beq_eq_false_iff_ne]; omega
  have j8 : j < 8 := by omega
  have c0 := fun (V : World) (h : Blk (w.heap.size + 1) (pkc p) 50 V) => h.cell (24 + j) _ (p.get_want j j8)
  have i0 : ¬ (j : Int) < 0 := by omega
  have i1 : ¬ (7 : Int) < (j : Int) := by omega
  have i2 : (j : Int) < 8 := by omega
  go_wp2_with (first | refine load_part rfl 27 _ rfl (o := 21) a1 rfl p.pr.vals p.p_pr Try.underlying27 rfl sizeIdn ?_ | refine load_blk rfl 27 _ rfl a0 rfl Try.underlying27 rfl sizeIdn ?_)
  refine (pc _).mono ?_
  rintro r w1 ⟨rfl, hb⟩
  replace a1 := a1.below hb
  replace hB := hB.trans (hb.mono hB.size)
  clear hb pc a0 h0 h1
  replace c0 := c0 _ a1
  rcases h4 with rfl | rfl | rfl
  · obtain rfl : R = false := by rw [← HR.out]; simp [adoptB, hk]
    clear HR hk a1 h2
    go_wp2_with fail
    go_ret
    exact ⟨rfl, hB⟩
  · obtain ⟨t, ht⟩ : ∃ t, decide (p.want j = n) = t := ⟨_, rfl⟩
    obtain rfl : R = t := by rw [← HR.out, ← ht]; simp [adoptB, hasM, hk, h2, i2]
    have hq : ((p.want j : Int) == (n : Int)) = R := by rw [← ht, Bool.eq_iff_iff, beq_iff_eq, decide_eq_true_iff]; omega
    clear HR hk a1 h2 ht
    go_wp2_with fail
    go_ret
    exact ⟨rfl, hB⟩
  · obtain rfl : R = false := by rw [← HR.out]; simp [adoptB, hk]
    clear HR hk a1 h2
    go_wp2_with fail
    go_ret
    exact ⟨rfl, hB⟩

end Go.Proofs.Ythgmecgknhphmaa
