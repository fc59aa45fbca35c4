/-
  What two packets tell together, what is known of a daemon behind its packet, whether what it promised is taken: what each call answers.
  No condition.
-/
import Derived.Test.YthgmecgknhphmaaBase
namespace Go.Proofs.Ythgmecgknhphmaa
set_option maxRecDepth 10000
set_option linter.unusedSimpArgs false
open Go.RowKit Go.Sort
set_option linter.unusedVariables false

theorem bsCt2 (a b : Nat → Nat) (w : World) : (Instr.buildSlice 130 2 #[(0, .agg (mbc a)), (1, .agg (mbc b))]).run Try.prog w = .ok (.slice (some ⟨w.heap.size, 0, none⟩) 2 2) (w.alloc (.cells (flat row8 [a, b]).toArray 29)) := by kernel_rfl
theorem box_cc {ops : Array Oper} {rest : List Oper} {op : Oper} {a : Act} {w : World} {Q : Exit → Act → World → Prop} (hgd : op.guard = none) (y z : Operand) (ho : op.op = .buildSlice 130 2 #[(0, y), (1, z)]) (c d : Nat → Nat) (hx : a.eval y = .agg (mbc c)) (hz : a.eval z = .agg (mbc d))
    (h : ∀ p W, Blk p (flat row8 [c, d]).toArray 29 W → Below w.heap.size w W → w.heap.size ≤ p → wpList Try.prog ops Q rest (a.put op.dst (.slice (some ⟨p, 0, none⟩) 2 2)) W) : wpList Try.prog ops Q (op :: rest) a w :=
  wpList_plain hgd fun _ hK => by
    have hk := hK _ _ (h _ _ (blk_new w _ _) (below_box w _) (Nat.le_refl _))
    unfold Oper.wp execOp
    simp only [ho, List.map_toArray, List.map_cons, List.map_nil, hx, hz, Sem.run_bind, Sem.run_pure, bsCt2, Result.andThen_ok]
    exact hk
theorem union2_ok (a b : Nat → Nat) {g : Nat} {u : World} (h : Blk g (flat row8 [a, b]).toArray 29 u) : Calls Try.prog 97 #[.slice (some ⟨g, 0, none⟩) 2 2] u fun e w' => e = .returned (.agg (mbc (maxC a b))) ∧ Below u.heap.size u w' := by
  rw [← union_two]
  exact union_ok [a, b] _ 2 (by simp) u (li_whole h (Nat.zero_le _))
theorem bsInts2 (p q : Int) (w : World) : (Instr.buildSlice 115 2 #[(0, .int .i64 p), (1, .int .i64 q)]).run Try.prog w = .ok (.slice (some ⟨w.heap.size, 0, none⟩) 2 2) (w.alloc (.cells (flat iv [p, q]).toArray 3)) := by kernel_rfl
theorem wp_ints2 {o : Oper} {a : Act} {w : World} {K : Act → World → Prop} {Q : Exit → Act → World → Prop} (x y : Operand) (ho : o.op = .buildSlice 115 2 #[(0, x), (1, y)]) (p q : Int) (h0 : a.eval x = .int .i64 p) (h1 : a.eval y = .int .i64 q)
    (h : ∀ g W, Blk g (flat iv [p, q]).toArray 3 W → Below w.heap.size w W → w.heap.size ≤ g → K (a.put o.dst (.slice (some ⟨g, 0, none⟩) 2 2)) W) : o.wp Try.prog a w K Q := by
  have hk := h _ _ (blk_new w _ _) (below_box w _) (Nat.le_refl _)
  unfold Oper.wp execOp
  simp only [ho, List.map_toArray, List.map_cons, List.map_nil, h0, h1, Sem.run_bind, Sem.run_pure, bsInts2, Result.andThen_ok]
  exact hk
theorem or2_ok (x y : Int) {g : Nat} {u : World} (h : Blk g (flat iv [x, y]).toArray 3 u) : Calls Try.prog 79 #[.slice (some ⟨g, 0, none⟩) 2 2] u fun e w' => e = .returned (.int .i64 (orI [x, y])) ∧ w' = u := or_ok _ [x, y] 2 (by simp) _ (li_whole h (Nat.zero_le _))

theorem sizeBool : (Try.prog.info? 4).map (·.size) = some 1 := by kernel_rfl

set_option maxHeartbeats 4000000 in
theorem together_ok (x y : Pe) (w : World) : Calls Try.prog 82 #[.agg x.arr, .agg y.arr] w fun e w' => e = .returned (.agg (togP x y).arr) ∧ Below w.heap.size w w' := by
  obtain ⟨xi, xc, xp, xk, xr⟩ := x
  obtain ⟨yi, yc, yp, yk, yr⟩ := y
  obtain ⟨a0, a1, a2, hB⟩ := three_blk (T0 := 32) (T1 := 32) (T2 := 32) (C0 := (Pe.mk xi xc xp xk xr).arr) (C1 := (Pe.mk yi yc yp yk yr).arr) (C2 := Pe.zero.arr) (w := w) rfl
  obtain ⟨R, HR⟩ : ∃ R, Hid (togP ⟨xi, xc, xp, xk, xr⟩ ⟨yi, yc, yp, yk, yr⟩ = R) := ⟨_, rfl⟩
  rw [HR.out]
  have pc := cmp_ok yc xc
  obtain ⟨k, hc⟩ : ∃ k, cmpId yc xc = k := ⟨_, rfl⟩
  have h3 : k = -1 ∨ k = 1 ∨ k = 0 := by
    rw [← hc]
    rcases cmpId_cases yc xc with ⟨_, h⟩ | ⟨_, h⟩ | ⟨_, h⟩ <;> simp [h]
  rw [hc] at pc
  have pu := fun (g : Nat) (u : World) (h : Blk g (flat row8 [xk, yk]).toArray 29 u) => union2_ok xk yk h
  go_enter Try.func82, Try.ntmps82
  go_upto_region 1 with (refine alloc_zero zeroPe rfl rfl ?_)
  try simp only [Act.put, List.setIfInBounds_toArray, List.set_cons_zero, List.set_cons_succ]
  try simp only [alloc_size]
  generalize ((w.alloc (Obj.cells (Pe.mk xi xc xp xk xr).arr 32)).alloc (Obj.cells (Pe.mk yi yc yp yk yr).arr 32)).alloc (Obj.cells Pe.zero.arr 32) = W at a0 a1 a2 hB ⊢
  go_wp2_with (first | refine load_part rfl 27 _ rfl (o := 1) a1 rfl yc.vals (by kernel_rfl) Try.underlying27 rfl sizeIdn ?_ | refine load_part rfl 27 _ rfl (o := 1) a0 rfl xc.vals (by kernel_rfl) Try.underlying27 rfl sizeIdn ?_)
  refine (pc _).mono ?_
  rintro r w1 ⟨rfl, hb⟩
  replace a0 := a0.below hb
  replace a1 := a1.below hb
  replace a2 := a2.below hb
  replace hB := hB.trans (hb.mono hB.size)
  clear hb pc
  rcases h3 with rfl | rfl | rfl
  · clear pu
    go_upto_region 6 with fail
    cases xr with
    | true =>
      obtain rfl : R = ⟨xi, xc, xp, xk, true⟩ := by rw [← HR.out]; simp [togP, hc]
      have c0 := a0.cell 15 (.bool true) rfl
      have c1 := a1.cell 15 (.bool yr) rfl
      clear HR hc
      go_wp2_with (first | (refine store_one rfl 4 _ _ rfl (off := 15) (.bool true) a0 rfl rfl rfl rfl sizeBool (by show 15 + 1 ≤ 16; omega) ?_; intro w6 b6 k6; rw [Pe.s_rdy] at b6; replace a2 := a2.kp1 k6 (by omega); replace hB : Below w.heap.size w w6 := hB.trans (k6.below1 (by omega) hB.size)) | refine load_blk rfl 32 _ rfl b6 rfl Try.underlying32 rfl sizePe ?_ | (refine store_part rfl 32 _ _ rfl (off := 0) (cells := (Pe.mk xi xc xp xk true).arr) a2 rfl rfl sizePe (Nat.le_refl _) (Pe.arr_one _) ?_; intro w9 b9 k9; rw [Pe.all] at b9; have hB9 : Below w.heap.size w w9 := hB.trans (k9.below1 (by omega) hB.size)))
      exact bodyPost_ret (w := w9) (v := .agg (Pe.mk xi xc xp xk true).arr) (ret_one rfl rfl b9 Try.underlying32 rfl sizePe) rfl ⟨rfl, hB9⟩
    | false =>
      obtain rfl : R = ⟨xi, xc, xp, xk, yr⟩ := by rw [← HR.out]; simp [togP, hc]
      have c0 := a0.cell 15 (.bool false) rfl
      have c1 := a1.cell 15 (.bool yr) rfl
      clear HR hc
      go_wp2_with (first | (refine store_one rfl 4 _ _ rfl (off := 15) (.bool yr) a0 rfl rfl rfl rfl sizeBool (by show 15 + 1 ≤ 16; omega) ?_; intro w6 b6 k6; rw [Pe.s_rdy] at b6; replace a2 := a2.kp1 k6 (by omega); replace hB : Below w.heap.size w w6 := hB.trans (k6.below1 (by omega) hB.size)) | refine load_blk rfl 32 _ rfl b6 rfl Try.underlying32 rfl sizePe ?_ | (refine store_part rfl 32 _ _ rfl (off := 0) (cells := (Pe.mk xi xc xp xk yr).arr) a2 rfl rfl sizePe (Nat.le_refl _) (Pe.arr_one _) ?_; intro w9 b9 k9; rw [Pe.all] at b9; have hB9 : Below w.heap.size w w9 := hB.trans (k9.below1 (by omega) hB.size)))
      exact bodyPost_ret (w := w9) (v := .agg (Pe.mk xi xc xp xk yr).arr) (ret_one rfl rfl b9 Try.underlying32 rfl sizePe) rfl ⟨rfl, hB9⟩
  · clear pu
    go_upto_region 3 with fail
    have hC0 := hB.drew
    have q0 := a0.drew
    refine wp_region_held_drew (S := fun w' => Blk (w.heap.size + 1) (Pe.mk yi yc yp yk yr).arr 32 w' ∧ Blk (w.heap.size + 1 + 1) Pe.zero.arr 32 w') (by kernel_rfl) ⟨a1.drew, a2.drew⟩ (fun hHeld => ?_)
    refine tkH 0 (v := ?v1) rfl (by kernel_rfl) (fun _ _ _ h => h) (Or.inl ⟨by rfl, ?hy1⟩) hHeld ?rest1
    case hy1 => (intro w hSw; clear hSw; go_simp; try with_reducible rfl)
    try simp only [List.getElem_toArray, List.getElem_cons_succ, List.getElem_cons_zero, Act.put, List.setIfInBounds_toArray, List.set_cons_succ, List.set_cons_zero]
    refine' tkH 1 (v := _) rfl (by kernel_rfl) (fun _ _ _ h => h) (yieldsIf_load_mid (by rfl) _ _ rfl (w.heap.size + 1) 1 rfl yc.vals _ ?hS2 Try.underlying27 rfl sizeIdn) hHeld ?rest2
    case hS2 => exact fun w h => h.1.range 1 yc.vals (by kernel_rfl)
    try simp only [List.getElem_toArray, List.getElem_cons_succ, List.getElem_cons_zero, Act.put, List.setIfInBounds_toArray, List.set_cons_succ, List.set_cons_zero]
    refine tkH 2 (v := ?v3) rfl (by kernel_rfl) (fun _ _ _ h => h) (Or.inl ⟨by rfl, ?hy3⟩) hHeld ?rest3
    case hy3 => (intro w hSw; clear hSw; go_simp; try with_reducible rfl)
    try simp only [List.getElem_toArray, List.getElem_cons_succ, List.getElem_cons_zero, Act.put, List.setIfInBounds_toArray, List.set_cons_succ, List.set_cons_zero]
    refine' tkH 3 (v := _) rfl (by kernel_rfl) (fun _ _ _ h => h) (yieldsIf_load_mid (by rfl) _ _ rfl (w.heap.size + 1) 7 rfl (row8 yk) _ ?hS4 Try.underlying29 rfl sizeCt) hHeld ?rest4
    case hS4 => exact fun w h => h.1.range 7 (row8 yk) (by kernel_rfl)
    try simp only [List.getElem_toArray, List.getElem_cons_succ, List.getElem_cons_zero, Act.put, List.setIfInBounds_toArray, List.set_cons_succ, List.set_cons_zero]
    refine tkH 4 (v := ?v5) rfl (by kernel_rfl) (fun _ _ _ h => h) (Or.inl ⟨by rfl, ?hy5⟩) hHeld ?rest5
    case hy5 => (intro w hSw; clear hSw; go_simp; try with_reducible rfl)
    try simp only [List.getElem_toArray, List.getElem_cons_succ, List.getElem_cons_zero, Act.put, List.setIfInBounds_toArray, List.set_cons_succ, List.set_cons_zero]
    refine wpAnyH_ready (rs := [5]) (by kernel_rfl) (by simp) ?_
    refine AllReadyH.cons rfl (fun K hK => ?_) (AllReadyH.nil)
    rw [if_pos (by rfl)]
    refine wp_store_part 27 _ _ rfl (off := 1) (cells := yc.arr) q0 rfl rfl sizeIdn (by show 1 + 3 ≤ 16; omega) yc.arr_one ?_
    intro u1 hn hk
    rw [Pe.s_conf] at hn
    have q1 := hn
    have hC1 := hC0.trans (hk.below (by simp <;> omega) hC0.size)
    refine hK.out _ _ ⟨hHeld.1.kp1 hk (by omega), hHeld.2.kp1 hk (by omega)⟩ (fun hHeld => ?_)
    clear hK K hk hn q0 hC0
    try simp only [List.getElem_toArray, List.getElem_cons_succ, List.getElem_cons_zero, Act.put, List.setIfInBounds_toArray, List.set_cons_succ, List.set_cons_zero]
    refine tkH 6 (v := ?v6) rfl (by kernel_rfl) (fun _ _ _ h => h) (Or.inl ⟨by rfl, ?hy6⟩) hHeld ?rest6
    case hy6 => (intro w hSw; clear hSw; go_simp; try with_reducible rfl)
    try simp only [List.getElem_toArray, List.getElem_cons_succ, List.getElem_cons_zero, Act.put, List.setIfInBounds_toArray, List.set_cons_succ, List.set_cons_zero]
    refine wpAnyH_ready (rs := [7]) (by kernel_rfl) (by simp) ?_
    refine AllReadyH.cons rfl (fun K hK => ?_) (AllReadyH.nil)
    rw [if_pos (by rfl)]
    refine wp_store_part 29 _ _ rfl (off := 7) (cells := (mbc yk)) q1 rfl rfl sizeCt (by show 7 + 8 ≤ 16; omega) (mbc_one _) ?_
    intro u2 hn hk
    rw [Pe.s_cut] at hn
    have q2 := hn
    have hC2 := hC1.trans (hk.below (by simp <;> omega) hC1.size)
    refine hK.out _ _ ⟨hHeld.1.kp1 hk (by omega), hHeld.2.kp1 hk (by omega)⟩ (fun hHeld => ?_)
    clear hK K hk hn q1 hC1
    try simp only [List.getElem_toArray, List.getElem_cons_succ, List.getElem_cons_zero, Act.put, List.setIfInBounds_toArray, List.set_cons_succ, List.set_cons_zero]
    refine wpAnyH_done (by kernel_rfl) ?_ _
    have a0 := q2
    have hB := hC2
    have a1 := hHeld.1
    have a2 := hHeld.2
    clear q2 hC2 hHeld
    cases xr with
    | true =>
      obtain rfl : R = ⟨xi, yc, xp, yk, true⟩ := by rw [← HR.out]; simp [togP, hc]
      have c0 := a0.cell 15 (.bool true) rfl
      have c1 := a1.cell 15 (.bool yr) rfl
      clear HR hc
      go_wp2_with (first | (refine store_one rfl 4 _ _ rfl (off := 15) (.bool true) a0 rfl rfl rfl rfl sizeBool (by show 15 + 1 ≤ 16; omega) ?_; intro w6 b6 k6; rw [Pe.s_rdy] at b6; replace a2 := a2.kp1 k6 (by omega); replace hB : Below w.heap.size w w6 := hB.trans (k6.below1 (by omega) hB.size)) | refine load_blk rfl 32 _ rfl b6 rfl Try.underlying32 rfl sizePe ?_ | (refine store_part rfl 32 _ _ rfl (off := 0) (cells := (Pe.mk xi yc xp yk true).arr) a2 rfl rfl sizePe (Nat.le_refl _) (Pe.arr_one _) ?_; intro w9 b9 k9; rw [Pe.all] at b9; have hB9 : Below w.heap.size w w9 := hB.trans (k9.below1 (by omega) hB.size)))
      exact bodyPost_ret (w := w9) (v := .agg (Pe.mk xi yc xp yk true).arr) (ret_one rfl rfl b9 Try.underlying32 rfl sizePe) rfl ⟨rfl, hB9⟩
    | false =>
      obtain rfl : R = ⟨xi, yc, xp, yk, yr⟩ := by rw [← HR.out]; simp [togP, hc]
      have c0 := a0.cell 15 (.bool false) rfl
      have c1 := a1.cell 15 (.bool yr) rfl
      clear HR hc
      go_wp2_with (first | (refine store_one rfl 4 _ _ rfl (off := 15) (.bool yr) a0 rfl rfl rfl rfl sizeBool (by show 15 + 1 ≤ 16; omega) ?_; intro w6 b6 k6; rw [Pe.s_rdy] at b6; replace a2 := a2.kp1 k6 (by omega); replace hB : Below w.heap.size w w6 := hB.trans (k6.below1 (by omega) hB.size)) | refine load_blk rfl 32 _ rfl b6 rfl Try.underlying32 rfl sizePe ?_ | (refine store_part rfl 32 _ _ rfl (off := 0) (cells := (Pe.mk xi yc xp yk yr).arr) a2 rfl rfl sizePe (Nat.le_refl _) (Pe.arr_one _) ?_; intro w9 b9 k9; rw [Pe.all] at b9; have hB9 : Below w.heap.size w w9 := hB.trans (k9.below1 (by omega) hB.size)))
      exact bodyPost_ret (w := w9) (v := .agg (Pe.mk xi yc xp yk yr).arr) (ret_one rfl rfl b9 Try.underlying32 rfl sizePe) rfl ⟨rfl, hB9⟩
  · go_upto_region 5 with fail
    go_wp2_with (first | refine load_part rfl 29 _ rfl (o := 7) a0 rfl (row8 xk) (by kernel_rfl) Try.underlying29 rfl sizeCt ?_ | refine load_part rfl 29 _ rfl (o := 7) a1 rfl (row8 yk) (by kernel_rfl) Try.underlying29 rfl sizeCt ?_ | (refine box_cc rfl _ _ rfl xk yk rfl rfl ?_; intro g w2 g2 hb gl))
    replace a0 := a0.below hb
    replace a1 := a1.below hb
    replace a2 := a2.below hb
    replace hB := hB.trans (hb.mono hB.size)
    clear hb
    refine (pu _ _ g2).mono ?_
    rintro r w3 ⟨rfl, hb⟩
    replace a0 := a0.below hb
    replace a1 := a1.below hb
    replace a2 := a2.below hb
    replace hB := hB.trans (hb.mono hB.size)
    clear hb pu g2 gl
    go_upto_region 6 with (refine store_part rfl 29 _ _ rfl (off := 7) (cells := mbc (maxC xk yk)) a0 rfl rfl sizeCt (by show 7 + 8 ≤ 16; omega) (mbc_one _) ?_; intro w5 b5 k5; rw [Pe.s_cut] at b5; replace a1 := a1.kp1 k5 (by omega); replace a2 := a2.kp1 k5 (by omega); replace hB : Below w.heap.size w w5 := hB.trans (k5.below1 (by omega) hB.size))
    replace a0 := b5
    clear b5 k5
    obtain ⟨mk, hm⟩ : ∃ m, maxC xk yk = m := ⟨_, rfl⟩
    rw [hm] at a0
    cases xr with
    | true =>
      obtain rfl : R = ⟨xi, xc, xp, mk, true⟩ := by rw [← HR.out]; simp [togP, hc, hm]
      have c0 := a0.cell 15 (.bool true) rfl
      have c1 := a1.cell 15 (.bool yr) rfl
      clear HR hc
      go_wp2_with (first | (refine store_one rfl 4 _ _ rfl (off := 15) (.bool true) a0 rfl rfl rfl rfl sizeBool (by show 15 + 1 ≤ 16; omega) ?_; intro w6 b6 k6; rw [Pe.s_rdy] at b6; replace a2 := a2.kp1 k6 (by omega); replace hB : Below w.heap.size w w6 := hB.trans (k6.below1 (by omega) hB.size)) | refine load_blk rfl 32 _ rfl b6 rfl Try.underlying32 rfl sizePe ?_ | (refine store_part rfl 32 _ _ rfl (off := 0) (cells := (Pe.mk xi xc xp mk true).arr) a2 rfl rfl sizePe (Nat.le_refl _) (Pe.arr_one _) ?_; intro w9 b9 k9; rw [Pe.all] at b9; have hB9 : Below w.heap.size w w9 := hB.trans (k9.below1 (by omega) hB.size)))
      exact bodyPost_ret (w := w9) (v := .agg (Pe.mk xi xc xp mk true).arr) (ret_one rfl rfl b9 Try.underlying32 rfl sizePe) rfl ⟨rfl, hB9⟩
    | false =>
      obtain rfl : R = ⟨xi, xc, xp, mk, yr⟩ := by rw [← HR.out]; simp [togP, hc, hm]
      have c0 := a0.cell 15 (.bool false) rfl
      have c1 := a1.cell 15 (.bool yr) rfl
      clear HR hc
      go_wp2_with (first | (refine store_one rfl 4 _ _ rfl (off := 15) (.bool yr) a0 rfl rfl rfl rfl sizeBool (by show 15 + 1 ≤ 16; omega) ?_; intro w6 b6 k6; rw [Pe.s_rdy] at b6; replace a2 := a2.kp1 k6 (by omega); replace hB : Below w.heap.size w w6 := hB.trans (k6.below1 (by omega) hB.size)) | refine load_blk rfl 32 _ rfl b6 rfl Try.underlying32 rfl sizePe ?_ | (refine store_part rfl 32 _ _ rfl (off := 0) (cells := (Pe.mk xi xc xp mk yr).arr) a2 rfl rfl sizePe (Nat.le_refl _) (Pe.arr_one _) ?_; intro w9 b9 k9; rw [Pe.all] at b9; have hB9 : Below w.heap.size w w9 := hB.trans (k9.below1 (by omega) hB.size)))
      exact bodyPost_ret (w := w9) (v := .agg (Pe.mk xi xc xp mk yr).arr) (ret_one rfl rfl b9 Try.underlying32 rfl sizePe) rfl ⟨rfl, hB9⟩

end Go.Proofs.Ythgmecgknhphmaa
