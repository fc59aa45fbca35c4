/-
  Of the texts beneath these laws, in their order: Bo, GaA, CeA.
  Each theorem says its own conditions.
-/
import Derived.Test.YthgfpdidilolgaaGreatZ00
import Derived.Test.YthgfpdidilolgaaGreatZ04
import Derived.Test.YthgfpdidilolgaaGreatZ01
import Derived.Test.YthgfpdidilolgaaGreatZ03
namespace Go.Proofs.YthgfpdidilolgaaGreat
set_option maxRecDepth 10000
open Go.RowKit Go.Sort
def bvl (x : Bool) : List Value := [.bool x]
theorem bvl_length (x : Bool) : (bvl x).length = 1 := rfl
theorem bvl_one (x : Bool) : ∀ v ∈ bvl x, v.oneCell' = true := by
 intro v hv
 simp [bvl] at hv
 subst hv
 rfl
theorem infoBool : ∃ i z, Tryz.prog.info? 4 = some i ∧ i.zero = some z ∧ i.size = 1 ∧ i.bytes = 1 ∧ z.cells.size = 1 := by
 have h : (Tryz.prog.info? 4).map (fun i => (i.zero, i.size, i.bytes)) = some (some (.bool false), 1, 1) := by kernel_rfl
 obtain ⟨i, hi, h0, h1, h2⟩ := info_parts h
 exact ⟨i, _, hi, h0, h1, h2, rfl⟩
theorem bsBool (x : Bool) (w : World) : (Instr.buildSlice 26 1 #[(0, .bool x)]).run Tryz.prog w = .ok (.slice (some ⟨w.heap.size, 0, none⟩) 1 1) (w.alloc (.cells (bvl x).toArray 4)) := by kernel_rfl
theorem box_bool {ops : Array Oper} {rest : List Oper} {op : Oper} {a : Act} {w : World} {Q : Exit → Act → World → Prop} (hgd : op.guard = none) (x : Operand) (ho : op.op = .buildSlice 26 1 #[(0, x)]) (n : Bool) (hx : a.eval x = .bool n)
  (h : wpList Tryz.prog ops Q rest (a.put op.dst (.slice (some ⟨w.heap.size, 0, none⟩) 1 1)) (w.alloc (.cells (bvl n).toArray 4))) : wpList Tryz.prog ops Q (op :: rest) a w :=
 wpList_plain hgd fun _ hK => by
  have hk := hK _ _ h
  unfold Oper.wp execOp
  simp only [ho, List.map_toArray, List.map_cons, List.map_nil, hx, Sem.run_bind, Sem.run_pure, bsBool, Result.andThen_ok]
  exact hk
end Go.Proofs.YthgfpdidilolgaaGreat
namespace Go.Proofs.YthgfpdidilolgaaGreat
set_option maxRecDepth 10000
set_option linter.unusedSimpArgs false
open Go.RowKit Go.Sort
set_option linter.unusedVariables false
theorem bsCt2 (a b : Nat → Nat) (w : World) : (Instr.buildSlice 187 2 #[(0, .agg (mbc a)), (1, .agg (mbc b))]).run Tryz.prog w = .ok (.slice (some ⟨w.heap.size, 0, none⟩) 2 2) (w.alloc (.cells (flat row8 [a, b]).toArray 60)) := by kernel_rfl
theorem box_cc {ops : Array Oper} {rest : List Oper} {op : Oper} {a : Act} {w : World} {Q : Exit → Act → World → Prop} (hgd : op.guard = none) (y z : Operand) (ho : op.op = .buildSlice 187 2 #[(0, y), (1, z)]) (c d : Nat → Nat) (hx : a.eval y = .agg (mbc c)) (hz : a.eval z = .agg (mbc d))
  (h : ∀ p W, Blk p (flat row8 [c, d]).toArray 60 W → Below w.heap.size w W → w.heap.size ≤ p → wpList Tryz.prog ops Q rest (a.put op.dst (.slice (some ⟨p, 0, none⟩) 2 2)) W) : wpList Tryz.prog ops Q (op :: rest) a w :=
 wpList_plain hgd fun _ hK => by
  have hk := hK _ _ (h _ _ (blk_new w _ _) (below_box w _) (Nat.le_refl _))
  unfold Oper.wp execOp
  simp only [ho, List.map_toArray, List.map_cons, List.map_nil, hx, hz, Sem.run_bind, Sem.run_pure, bsCt2, Result.andThen_ok]
  exact hk
theorem union2_ok (a b : Nat → Nat) {g : Nat} {u : World} (h : Blk g (flat row8 [a, b]).toArray 60 u) : Calls Tryz.prog 167 #[.slice (some ⟨g, 0, none⟩) 2 2] u fun e w' => e = .returned (.agg (mbc (maxC a b))) ∧ Below u.heap.size u w' := by
 rw [← union_two]
 exact union_ok [a, b] _ 2 (by simp) u (li_whole h (Nat.zero_le _))
theorem bsInts2 (p q : Int) (w : World) : (Instr.buildSlice 93 2 #[(0, .int .i64 p), (1, .int .i64 q)]).run Tryz.prog w = .ok (.slice (some ⟨w.heap.size, 0, none⟩) 2 2) (w.alloc (.cells (flat iv [p, q]).toArray 3)) := by kernel_rfl
theorem wp_ints2 {o : Oper} {a : Act} {w : World} {K : Act → World → Prop} {Q : Exit → Act → World → Prop} (x y : Operand) (ho : o.op = .buildSlice 93 2 #[(0, x), (1, y)]) (p q : Int) (h0 : a.eval x = .int .i64 p) (h1 : a.eval y = .int .i64 q)
  (h : ∀ g W, Blk g (flat iv [p, q]).toArray 3 W → Below w.heap.size w W → w.heap.size ≤ g → K (a.put o.dst (.slice (some ⟨g, 0, none⟩) 2 2)) W) : o.wp Tryz.prog a w K Q := by
 have hk := h _ _ (blk_new w _ _) (below_box w _) (Nat.le_refl _)
 unfold Oper.wp execOp
 simp only [ho, List.map_toArray, List.map_cons, List.map_nil, h0, h1, Sem.run_bind, Sem.run_pure, bsInts2, Result.andThen_ok]
 exact hk
theorem or2_ok (x y : Int) {g : Nat} {u : World} (h : Blk g (flat iv [x, y]).toArray 3 u) : Calls Tryz.prog 191 #[.slice (some ⟨g, 0, none⟩) 2 2] u fun e w' => e = .returned (.int .i64 (orI [x, y])) ∧ w' = u := or_ok _ [x, y] 2 (by simp) _ (li_whole h (Nat.zero_le _))
theorem sizeBool : (Tryz.prog.info? 4).map (·.size) = some 1 := by kernel_rfl
set_option maxHeartbeats 4000000 in
theorem together_ok (x y : Pe) (w : World) : Calls Tryz.prog 194 #[.agg x.arr, .agg y.arr] w fun e w' => e = .returned (.agg (togP x y).arr) ∧ Below w.heap.size w w' := by
 obtain ⟨xi, xc, xp, xk, xr⟩ := x
 obtain ⟨yi, yc, yp, yk, yr⟩ := y
 obtain ⟨a0, a1, a2, hB⟩ := three_blk (T0 := 75) (T1 := 75) (T2 := 75) (C0 := (Pe.mk xi xc xp xk xr).arr) (C1 := (Pe.mk yi yc yp yk yr).arr) (C2 := Pe.zero.arr) (w := w) rfl
 obtain ⟨R, HR⟩ : ∃ R, Hid (togP ⟨xi, xc, xp, xk, xr⟩ ⟨yi, yc, yp, yk, yr⟩ = R) := ⟨_, rfl⟩
 rw [HR.out]
 have pc := cmp_ok yc xc
 obtain ⟨k, hc⟩ : ∃ k, cmpId yc xc = k := ⟨_, rfl⟩
 have h3 : k = -1 ∨ k = 1 ∨ k = 0 := by
  rw [← hc]
  rcases cmpId_cases yc xc with ⟨_, h⟩ | ⟨_, h⟩ | ⟨_, h⟩ <;> simp [h]
 rw [hc] at pc
 have pu := fun (g : Nat) (u : World) (h : Blk g (flat row8 [xk, yk]).toArray 60 u) => union2_ok xk yk h
 go_enter Tryz.func194, Tryz.ntmps194
 go_upto_region 1 with (refine alloc_zero zeroPe rfl rfl ?_)
 try simp only [Act.put, List.setIfInBounds_toArray, List.set_cons_zero, List.set_cons_succ]
 try simp only [alloc_size]
 generalize ((w.alloc (Obj.cells (Pe.mk xi xc xp xk xr).arr 75)).alloc (Obj.cells (Pe.mk yi yc yp yk yr).arr 75)).alloc (Obj.cells Pe.zero.arr 75) = W at a0 a1 a2 hB ⊢
 go_wp2_with (first | refine load_part rfl 51 _ rfl (o := 1) a1 rfl yc.vals (by kernel_rfl) Tryz.underlying51 rfl sizeIdn ?_ | refine load_part rfl 51 _ rfl (o := 1) a0 rfl xc.vals (by kernel_rfl) Tryz.underlying51 rfl sizeIdn ?_)
 refine (pc _).mono ?_
 rintro r w1 ⟨rfl, hb⟩
 replace a0 := a0.below hb
 replace a1 := a1.below hb
 replace a2 := a2.below hb
 replace hB := hB.trans (hb.mono hB.size)
 clear hb pc
 rcases h3 with rfl | rfl | rfl
 ·clear pu
  go_upto_region 6 with fail
  cases xr with
  | true =>
   obtain rfl : R = ⟨xi, xc, xp, xk, true⟩ := by rw [← HR.out]; simp [togP, hc]
   have c0 := a0.cell 15 (.bool true) rfl
   have c1 := a1.cell 15 (.bool yr) rfl
   clear HR hc
   go_wp2_with (first | (refine store_one rfl 4 _ _ rfl (off := 15) (.bool true) a0 rfl rfl rfl rfl sizeBool (by show 15 + 1 ≤ 16; omega) ?_; intro w6 b6 k6; rw [Pe.s_rdy] at b6; replace a2 := a2.kp1 k6 (by omega); replace hB : Below w.heap.size w w6 := hB.trans (k6.below1 (by omega) hB.size)) | refine load_blk rfl 75 _ rfl b6 rfl Tryz.underlying75 rfl sizePe ?_ | (refine store_part rfl 75 _ _ rfl (off := 0) (cells := (Pe.mk xi xc xp xk true).arr) a2 rfl rfl sizePe (Nat.le_refl _) (Pe.arr_one _) ?_; intro w9 b9 k9; rw [Pe.all] at b9; have hB9 : Below w.heap.size w w9 := hB.trans (k9.below1 (by omega) hB.size)))
   exact bodyPost_ret (w := w9) (v := .agg (Pe.mk xi xc xp xk true).arr) (ret_one rfl rfl b9 Tryz.underlying75 rfl sizePe) rfl ⟨rfl, hB9⟩
  | false =>
   obtain rfl : R = ⟨xi, xc, xp, xk, yr⟩ := by rw [← HR.out]; simp [togP, hc]
   have c0 := a0.cell 15 (.bool false) rfl
   have c1 := a1.cell 15 (.bool yr) rfl
   clear HR hc
   go_wp2_with (first | (refine store_one rfl 4 _ _ rfl (off := 15) (.bool yr) a0 rfl rfl rfl rfl sizeBool (by show 15 + 1 ≤ 16; omega) ?_; intro w6 b6 k6; rw [Pe.s_rdy] at b6; replace a2 := a2.kp1 k6 (by omega); replace hB : Below w.heap.size w w6 := hB.trans (k6.below1 (by omega) hB.size)) | refine load_blk rfl 75 _ rfl b6 rfl Tryz.underlying75 rfl sizePe ?_ | (refine store_part rfl 75 _ _ rfl (off := 0) (cells := (Pe.mk xi xc xp xk yr).arr) a2 rfl rfl sizePe (Nat.le_refl _) (Pe.arr_one _) ?_; intro w9 b9 k9; rw [Pe.all] at b9; have hB9 : Below w.heap.size w w9 := hB.trans (k9.below1 (by omega) hB.size)))
   exact bodyPost_ret (w := w9) (v := .agg (Pe.mk xi xc xp xk yr).arr) (ret_one rfl rfl b9 Tryz.underlying75 rfl sizePe) rfl ⟨rfl, hB9⟩
 ·clear pu
  go_upto_region 3 with fail
  have hC0 := hB.drew
  have q0 := a0.drew
  refine wp_region_held_drew (S := fun w' => Blk (w.heap.size + 1) (Pe.mk yi yc yp yk yr).arr 75 w' ∧ Blk (w.heap.size + 1 + 1) Pe.zero.arr 75 w') (by kernel_rfl) ⟨a1.drew, a2.drew⟩ (fun hHeld => ?_)
  refine tkQ 0 hHeld ?_
  try simp only [yy]
  refine' tkH 1 (v := _) rfl (by kernel_rfl) (fun _ _ _ h => h) (yieldsIf_load_mid (by rfl) _ _ rfl (w.heap.size + 1) 1 rfl yc.vals _ ?hS2 Tryz.underlying51 rfl sizeIdn) hHeld ?_
  case hS2 => exact fun w h => h.1.range 1 yc.vals (by kernel_rfl)
  try simp only [yy]
  refine tkQ 2 hHeld ?_
  try simp only [yy]
  refine' tkH 3 (v := _) rfl (by kernel_rfl) (fun _ _ _ h => h) (yieldsIf_load_mid (by rfl) _ _ rfl (w.heap.size + 1) 7 rfl (row8 yk) _ ?hS4 Tryz.underlying60 rfl sizeCt) hHeld ?_
  case hS4 => exact fun w h => h.1.range 7 (row8 yk) (by kernel_rfl)
  try simp only [yy]
  refine tkQ 4 hHeld ?_
  try simp only [yy]
  refine rd1 5 (fun K hK => ?_)
  rw [if_pos (by rfl)]
  refine wp_store_part 51 _ _ rfl (off := 1) (cells := yc.arr) q0 rfl rfl sizeIdn (by show 1 + 3 ≤ 16; omega) yc.arr_one ?_
  intro u1 hn hk
  rw [Pe.s_conf] at hn
  have q1 := hn
  have hC1 := hC0.trans (hk.below (by simp <;> omega) hC0.size)
  refine hK.out _ _ ⟨hHeld.1.kp1 hk (by omega), hHeld.2.kp1 hk (by omega)⟩ (fun hHeld => ?_)
  clear hK K hk hn q0 hC0
  try simp only [yy]
  refine tkQ 6 hHeld ?_
  try simp only [yy]
  refine rd1 7 (fun K hK => ?_)
  rw [if_pos (by rfl)]
  refine wp_store_part 60 _ _ rfl (off := 7) (cells := (mbc yk)) q1 rfl rfl sizeCt (by show 7 + 8 ≤ 16; omega) (mbc_one _) ?_
  intro u2 hn hk
  rw [Pe.s_cut] at hn
  have q2 := hn
  have hC2 := hC1.trans (hk.below (by simp <;> omega) hC1.size)
  refine hK.out _ _ ⟨hHeld.1.kp1 hk (by omega), hHeld.2.kp1 hk (by omega)⟩ (fun hHeld => ?_)
  clear hK K hk hn q1 hC1
  try simp only [yy]
  refine wpAnyH_done (by kernel_rfl) ?_ _
  have a0 := q2
  have hB := hC2
  have a1 := hHeld.1
  have a2 := hHeld.2
  clear q2 hC2 hHeld
  cases xr with
  | true =>
   obtain rfl : R = ⟨xi, yc, xp, yk, true⟩ := by rw [← HR.out]; simp [togP, hc]
   have c0 := a0.cell 15 (.bool true) rfl
   have c1 := a1.cell 15 (.bool yr) rfl
   clear HR hc
   go_wp2_with (first | (refine store_one rfl 4 _ _ rfl (off := 15) (.bool true) a0 rfl rfl rfl rfl sizeBool (by show 15 + 1 ≤ 16; omega) ?_; intro w6 b6 k6; rw [Pe.s_rdy] at b6; replace a2 := a2.kp1 k6 (by omega); replace hB : Below w.heap.size w w6 := hB.trans (k6.below1 (by omega) hB.size)) | refine load_blk rfl 75 _ rfl b6 rfl Tryz.underlying75 rfl sizePe ?_ | (refine store_part rfl 75 _ _ rfl (off := 0) (cells := (Pe.mk xi yc xp yk true).arr) a2 rfl rfl sizePe (Nat.le_refl _) (Pe.arr_one _) ?_; intro w9 b9 k9; rw [Pe.all] at b9; have hB9 : Below w.heap.size w w9 := hB.trans (k9.below1 (by omega) hB.size)))
   exact bodyPost_ret (w := w9) (v := .agg (Pe.mk xi yc xp yk true).arr) (ret_one rfl rfl b9 Tryz.underlying75 rfl sizePe) rfl ⟨rfl, hB9⟩
  | false =>
   obtain rfl : R = ⟨xi, yc, xp, yk, yr⟩ := by rw [← HR.out]; simp [togP, hc]
   have c0 := a0.cell 15 (.bool false) rfl
   have c1 := a1.cell 15 (.bool yr) rfl
   clear HR hc
   go_wp2_with (first | (refine store_one rfl 4 _ _ rfl (off := 15) (.bool yr) a0 rfl rfl rfl rfl sizeBool (by show 15 + 1 ≤ 16; omega) ?_; intro w6 b6 k6; rw [Pe.s_rdy] at b6; replace a2 := a2.kp1 k6 (by omega); replace hB : Below w.heap.size w w6 := hB.trans (k6.below1 (by omega) hB.size)) | refine load_blk rfl 75 _ rfl b6 rfl Tryz.underlying75 rfl sizePe ?_ | (refine store_part rfl 75 _ _ rfl (off := 0) (cells := (Pe.mk xi yc xp yk yr).arr) a2 rfl rfl sizePe (Nat.le_refl _) (Pe.arr_one _) ?_; intro w9 b9 k9; rw [Pe.all] at b9; have hB9 : Below w.heap.size w w9 := hB.trans (k9.below1 (by omega) hB.size)))
   exact bodyPost_ret (w := w9) (v := .agg (Pe.mk xi yc xp yk yr).arr) (ret_one rfl rfl b9 Tryz.underlying75 rfl sizePe) rfl ⟨rfl, hB9⟩
 ·go_upto_region 5 with fail
  go_wp2_with (first | refine load_part rfl 60 _ rfl (o := 7) a0 rfl (row8 xk) (by kernel_rfl) Tryz.underlying60 rfl sizeCt ?_ | refine load_part rfl 60 _ rfl (o := 7) a1 rfl (row8 yk) (by kernel_rfl) Tryz.underlying60 rfl sizeCt ?_ | (refine box_cc rfl _ _ rfl xk yk rfl rfl ?_; intro g w2 g2 hb gl))
  replace a0 := a0.below hb
  replace a1 := a1.below hb
  replace a2 := a2.below hb
  replace hB := hB.trans (hb.mono hB.size)
  clear hb
  refine (pu _ _ g2).mono ?_
  rintro r w3 ⟨rfl, hb⟩
  replace a0 := a0.below hb
  replace a1 := a1.below hb
  replace a2 := a2.below hb
  replace hB := hB.trans (hb.mono hB.size)
  clear hb pu g2 gl
  go_upto_region 6 with (refine store_part rfl 60 _ _ rfl (off := 7) (cells := mbc (maxC xk yk)) a0 rfl rfl sizeCt (by show 7 + 8 ≤ 16; omega) (mbc_one _) ?_; intro w5 b5 k5; rw [Pe.s_cut] at b5; replace a1 := a1.kp1 k5 (by omega); replace a2 := a2.kp1 k5 (by omega); replace hB : Below w.heap.size w w5 := hB.trans (k5.below1 (by omega) hB.size))
  replace a0 := b5
  clear b5 k5
  obtain ⟨mk, hm⟩ : ∃ m, maxC xk yk = m := ⟨_, rfl⟩
  rw [hm] at a0
  cases xr with
  | true =>
   obtain rfl : R = ⟨xi, xc, xp, mk, true⟩ := by rw [← HR.out]; simp [togP, hc, hm]
   have c0 := a0.cell 15 (.bool true) rfl
   have c1 := a1.cell 15 (.bool yr) rfl
   clear HR hc
   go_wp2_with (first | (refine store_one rfl 4 _ _ rfl (off := 15) (.bool true) a0 rfl rfl rfl rfl sizeBool (by show 15 + 1 ≤ 16; omega) ?_; intro w6 b6 k6; rw [Pe.s_rdy] at b6; replace a2 := a2.kp1 k6 (by omega); replace hB : Below w.heap.size w w6 := hB.trans (k6.below1 (by omega) hB.size)) | refine load_blk rfl 75 _ rfl b6 rfl Tryz.underlying75 rfl sizePe ?_ | (refine store_part rfl 75 _ _ rfl (off := 0) (cells := (Pe.mk xi xc xp mk true).arr) a2 rfl rfl sizePe (Nat.le_refl _) (Pe.arr_one _) ?_; intro w9 b9 k9; rw [Pe.all] at b9; have hB9 : Below w.heap.size w w9 := hB.trans (k9.below1 (by omega) hB.size)))
   exact bodyPost_ret (w := w9) (v := .agg (Pe.mk xi xc xp mk true).arr) (ret_one rfl rfl b9 Tryz.underlying75 rfl sizePe) rfl ⟨rfl, hB9⟩
  | false =>
   obtain rfl : R = ⟨xi, xc, xp, mk, yr⟩ := by rw [← HR.out]; simp [togP, hc, hm]
   have c0 := a0.cell 15 (.bool false) rfl
   have c1 := a1.cell 15 (.bool yr) rfl
   clear HR hc
   go_wp2_with (first | (refine store_one rfl 4 _ _ rfl (off := 15) (.bool yr) a0 rfl rfl rfl rfl sizeBool (by show 15 + 1 ≤ 16; omega) ?_; intro w6 b6 k6; rw [Pe.s_rdy] at b6; replace a2 := a2.kp1 k6 (by omega); replace hB : Below w.heap.size w w6 := hB.trans (k6.below1 (by omega) hB.size)) | refine load_blk rfl 75 _ rfl b6 rfl Tryz.underlying75 rfl sizePe ?_ | (refine store_part rfl 75 _ _ rfl (off := 0) (cells := (Pe.mk xi xc xp mk yr).arr) a2 rfl rfl sizePe (Nat.le_refl _) (Pe.arr_one _) ?_; intro w9 b9 k9; rw [Pe.all] at b9; have hB9 : Below w.heap.size w w9 := hB.trans (k9.below1 (by omega) hB.size)))
   exact bodyPost_ret (w := w9) (v := .agg (Pe.mk xi xc xp mk yr).arr) (ret_one rfl rfl b9 Tryz.underlying75 rfl sizePe) rfl ⟨rfl, hB9⟩
end Go.Proofs.YthgfpdidilolgaaGreat
namespace Go.Proofs.YthgfpdidilolgaaGreat
set_option maxRecDepth 10000
set_option linter.unusedSimpArgs false
open Go.RowKit Go.Sort
set_option linter.unusedVariables false
theorem gathers_ok (c : Co) (w : World) : Calls Tryz.prog 130 #[.agg (coc c)] w fun e w' => e = .returned (.bool (gathB c)) ∧ Below w.heap.size w w' := by
 obtain ⟨t, ht⟩ : ∃ t, Idn.same c.pr c.conf = t := ⟨_, rfl⟩
 have e : gathB c = !t := by rw [gathB, ht]
 rw [e]
 have k1 : ∀ w, (binOp .neq 51 (.agg c.pr.vals.toArray) (.agg c.conf.vals.toArray)).run Tryz.prog w = .ok (.bool (!t)) w := neqIdn _ _ t ht
 have a0 := blk_new w (coc c) 78
 have hB : Below w.heap.size w (w.alloc (.cells (coc c) 78)) := below_box w _
 clear ht e
 go_enter Tryz.func130, Tryz.ntmps130
 go_upto_region 1 with fail
 generalize w.alloc (Obj.cells (coc c) 78) = W at a0 hB ⊢
 go_wp2_with (first | refine load_part rfl 51 _ rfl (o := 40) a0 rfl c.pr.vals c.p_pr Tryz.underlying51 rfl sizeIdn ?_ | refine load_part rfl 51 _ rfl (o := 20) a0 rfl c.conf.vals c.p_conf Tryz.underlying51 rfl sizeIdn ?_)
 go_ret
 exact ⟨rfl, hB⟩
theorem own_ok (c : Co) (s : Nat) (hs : s < 8) (hc : c.self = (s : Int)) (w : World) : Calls Tryz.prog 136 #[.agg (coc c)] w fun e w' => e = .returned (.int .u32 (ownN c : Int)) ∧ Below w.heap.size w w' := by
 have a0 := blk_new w (coc c) 78
 have hB : Below w.heap.size w (w.alloc (.cells (coc c) 78)) := below_box w _
 have eo : ownN c = c.count s := by rw [ownN, hc, Int.toNat_natCast]
 rw [eo]
 have s0 : (s : Int) < 8 := by omega
 have s1 : (0 : Int) ≤ (s : Int) := by omega
 go_enter Tryz.func136, Tryz.ntmps136
 go_upto_region 1 with fail
 generalize w.alloc (Obj.cells (coc c) 78) = W at a0 hB ⊢
 have c0 := a0.cell 0 (.int .i64 c.self) rfl
 rw [hc] at c0
 have c1 := a0.cell (31 + s) _ (c.get_count s hs)
 clear a0 hc eo
 go_wp2_with fail
 go_ret
 exact ⟨rfl, hB⟩
def Begun (c : Co) (L : List Kt) (B : Nat) (e : Ending) (w' : World) : Prop := ∃ a k, e = .returned (.agg (unc (c.kp a L.length k) (.slice none 0 0))) ∧ Lg Kt.vals 38 53 B a k L w'
set_option maxHeartbeats 2000000 in
theorem begin_ok (c : Co) (L : List Kt) (hn : c.kn = L.length) (hl : L.length * 352 ≤ 140737488355328) (w : World) (lS : Li Kt.vals 0 c.ka L w) : Calls Tryz.prog 99 #[.agg (coc c)] w fun e w' => Begun c L w.heap.size e w' ∧ Below w.heap.size w w' := by
 obtain ⟨a0, a1, hB⟩ := two_blk (T0 := 78) (T1 := 166) (C0 := coc c) (C1 := unc Co.zero (.slice none 0 0)) (w := w) rfl
 go_enter Tryz.func99, Tryz.ntmps99
 go_upto_region 1 with (refine alloc_zero zeroUn rfl rfl ?_)
 try simp only [Act.put, List.setIfInBounds_toArray, List.set_cons_zero, List.set_cons_succ]
 try simp only [alloc_size]
 generalize (w.alloc (Obj.cells (coc c) 78)).alloc (Obj.cells (unc Co.zero (.slice none 0 0)) 166) = W at a0 a1 hB ⊢
 have hV : w.heap.size + 1 < W.heap.size := a1.lt
 have c0 := a0.cell 39 (.slice c.ka c.kn c.kc) rfl
 rw [hn] at c0
 go_wp2_with fail
 refine (clone_ok L c.ka c.kc hl _ (lS.below hB)).mono ?_
 rintro r w1 ⟨⟨a, k, rfl, hg⟩, hb⟩
 replace a0 := a0.below hb
 replace a1 := a1.below hb
 replace hB := hB.trans (hb.mono hB.size)
 clear hb c0 lS
 replace hg := hg
 have hg0 : Lg Kt.vals 38 53 (w.heap.size + 1 + 1) a k L w1 := by
  rcases hg with h | ⟨g, e, h1, h2⟩
  ·exact .inl h
  ·exact .inr ⟨g, e, by omega, h2⟩
 clear hg
 go_upto_region 2 with (refine store_one rfl 73 _ _ rfl (off := 39) (.slice a L.length k) a0 rfl rfl rfl rfl sizeSl (by rw [coc_size]; decide) ?_; intro w2 b2 k2)
 try simp only [Act.put]
 rw [Co.s_kept] at b2
 have a2 : Blk w.heap.size (coc (c.kp a L.length k)) 78 w2 := b2
 replace a1 := a1.kp1 k2 (by omega)
 replace hg0 := hg0.kp k2 (by simp; omega)
 replace hB : Below w.heap.size w w2 := hB.trans (k2.below1 (by omega) hB.size)
 clear k2 b2 a0
 obtain ⟨q, hq⟩ : ∃ q, Hid (c.kp a L.length k = q) := ⟨_, rfl⟩
 rw [hq.out] at a2
 go_wp2_with (first | refine load_blk rfl 78 _ rfl a2 rfl Tryz.underlying78 rfl sizeCo ?_ | (refine build_as rfl 166 #[(0, .tmp 7)] rfl (C := unc q (.slice none 0 0)) ?_ ?_; kernel_rfl) | (refine store_part rfl 166 _ _ rfl (off := 0) (cells := unc q (.slice none 0 0)) a1 rfl rfl sizeUn (Nat.le_refl _) (unc_one _ _ _ _) ?_; intro w3 b3 k3; rw [unc_all] at b3; replace hg0 := hg0.kp k3 (by simp); have hB3 : Below w.heap.size w w3 := hB.trans (k3.below1 (by omega) hB.size)))
 exact bodyPost_ret (w := w3) (v := .agg (unc q (.slice none 0 0))) (ret_one rfl rfl b3 Tryz.underlying166 rfl sizeUn) rfl ⟨⟨a, k, by rw [hq.out], by
  rcases hg0 with h | ⟨g, e, h1, h2⟩
  ·exact .inl h
  ·exact .inr ⟨g, e, by omega, h2⟩⟩, hB3⟩
def Added (P : Nat) (c : Co) (Hs : List Hp) (h : Hp) (ta : Option Addr) (w w' : World) : Prop :=
 ∃ ta' tk', Blk P (unc c (.slice ta' (Hs ++ [h]).length tk')) 166 w' ∧ Lg Hp.vals 50 57 (P + 1) ta' tk' (Hs ++ [h]) w' ∧ Kp (P :: blkOf ta) w w' ∧ ∀ A ∈ blkOf ta', A ∈ blkOf ta ∨ w.heap.size ≤ A
set_option maxHeartbeats 2000000 in
theorem tell_ok (P : Nat) (c : Co) (ta : Option Addr) (tk : Nat) (Hs : List Hp) (x : Kt) (hl : (Hs.length + 1) * 408 ≤ 140737488355328) (w : World) (b0 : Blk P (unc c (.slice ta Hs.length tk)) 166 w) (hG0 : Lg Hp.vals 50 57 (P + 1) ta tk Hs w) :
  Calls Tryz.prog 139 #[.pointer (some ⟨P, 0, none⟩), .agg x.arr] w fun e w' => e = .returned (.tuple #[]) ∧ Added P c Hs (takeH x) ta w w' := by
 obtain ⟨iI, zI, hI, hz0, hsz, hby, hzs⟩ := infoHp
 have hP := b0.lt
 have a1 := blk_new w x.arr 53
 have hb := below_box w (.cells x.arr 53)
 obtain ⟨n, hn⟩ : ∃ n, Hs.length = n := ⟨_, rfl⟩
 rw [hn] at b0 hl
 go_enter Tryz.func139, Tryz.ntmps139
 go_upto_region 1 with fail
 generalize w.alloc (Obj.cells x.arr 53) = W at a1 hb ⊢
 have bP := (b0.below hb).drew
 have hG := (hG0.below hb).below (Below.refl _ _).drew
 have kP : Kp (P :: blkOf ta) w W.drew := (Kp.of_below hb).trans (Kp.drew _ _)
 clear b0 hb
 refine wp_region_held_drew (S := fun w' => Blk w.heap.size x.arr 53 w') (by kernel_rfl) a1.drew (fun hHeld => ?_)
 refine tkQ 0 hHeld ?_
 try simp only [yy]
 refine tkQ 1 hHeld ?_
 try simp only [yy]
 refine tkQ 2 hHeld ?_
 try simp only [yy]
 refine tkQ 3 hHeld ?_
 try simp only [yy]
 refine' tkH 5 (v := _) rfl (by kernel_rfl) (fun _ _ _ h => h) (yieldsIf_load_mid (by rfl) _ _ rfl w.heap.size 0 rfl x.vals _ ?hS5 Tryz.underlying53 rfl sizeKt) hHeld ?_
 case hS5 => exact fun w h => h.whole
 try simp only [yy]
 refine tkH 6 (v := .agg (takeH x).arr) rfl (by kernel_rfl) (fun _ _ _ h => h) (yields_build (by rfl) 57 #[(1, .tmp 9)] rfl (by kernel_rfl)) hHeld ?_
 try simp only [yy]
 refine wpAnyH_ready (rs := [4, 7]) (by kernel_rfl) (by simp) ?_
 refine AllReadyH.cons rfl (fun K hK => ?_) (AllReadyH.cons rfl (fun K hK => ?_) (AllReadyH.nil))
 ·rw [if_pos (by rfl)]
  refine wp_load_cell 109 _ rfl (.slice ta n tk) rfl (bP.cell 189 _ rfl) Tryz.underlying109 rfl ?_
  refine hK.out _ _ hHeld (fun hHeld => ?_)
  clear hK K 
  try simp only [yy]
  refine rd1 7 (fun K hK => ?_)
  rw [if_pos (by rfl)]
  refine wp_hp _ rfl (takeH x) rfl ?_
  intro g u2 hg1 hb hgl
  replace bP := bP.below hb
  replace hG := hG.below hb
  replace kP := kP.trans (Kp.of_below hb)
  refine hK.out _ _ (hHeld.below hb) (fun hHeld => ?_)
  clear hK K hb hgl
  try simp only [yy]
  refine rd1 8 (fun K hK => ?_)
  rw [if_pos (by rfl)]
  have hx := (li_one hg1).src (P := Tryz.prog) Hp.vals_length Hp.vals_one Tryz.underlying109 1
  refine wp_append_ln Hp.vals_length _ _ rfl Tryz.underlying109 hI hz0 hsz hby hzs hG (Nat.succ_le_of_lt bP.lt) hn rfl (M := [(takeH x)]) (by simp) hx rfl (by simp; omega) (by simp [maxLen]; omega) ?_
  intro ta' tk' u3 hG' hk' hA'
  replace bP := bP.kp hk' (fun hm => by have := hG.in _ hm; omega)
  have kP' := kP.trans (hk'.mono (fun i hi => by simp [hi]))
  refine hK.out _ _ (hHeld.kp hk' (fun hm => by have := hG0.in _ hm; omega)) (fun hHeld => ?_)
  clear hK K hG hx hg1
  try simp only [yy]
  refine tkQ 9 hHeld ?_
  try simp only [yy]
  refine tkQ 10 hHeld ?_
  try simp only [yy]
  refine rd1 11 (fun K hK => ?_)
  rw [if_pos (by rfl)]
  refine wp_store_one 109 _ _ rfl (off := 189) (.slice ta' (n + 1) tk') bP rfl rfl rfl rfl sizeHs (by rw [unc_size]; decide) ?_
  intro u4 hn9 hk9
  rw [unc_told] at hn9
  replace hG' := hG'.kp hk9 (by simp)
  replace kP' := kP'.trans (hk9.mono (fun i hi => by simp at hi; simp [hi]))
  refine hK.out _ _ (hHeld.kp1 hk9 (by omega)) (fun hHeld => ?_)
  clear hK K hk9 bP
  try simp only [yy]
  refine wpAnyH_done (by kernel_rfl) ?_ _
  go_wp2_with fail
  go_end0
  exact ⟨rfl, ta', tk', by rw [List.length_append, hn]; exact hn9, hG', kP', fun A hA => (hA' A hA).imp id (fun h => Nat.le_trans kP.size h)⟩
 ·rw [if_pos (by rfl)]
  refine wp_hp _ rfl (takeH x) rfl ?_
  intro g u5 hg1 hb hgl
  replace bP := bP.below hb
  replace hG := hG.below hb
  replace kP := kP.trans (Kp.of_below hb)
  refine hK.out _ _ (hHeld.below hb) (fun hHeld => ?_)
  clear hK K hb hgl
  try simp only [yy]
  refine rd1 4 (fun K hK => ?_)
  rw [if_pos (by rfl)]
  refine wp_load_cell 109 _ rfl (.slice ta n tk) rfl (bP.cell 189 _ rfl) Tryz.underlying109 rfl ?_
  refine hK.out _ _ hHeld (fun hHeld => ?_)
  clear hK K 
  try simp only [yy]
  refine rd1 8 (fun K hK => ?_)
  rw [if_pos (by rfl)]
  have hx := (li_one hg1).src (P := Tryz.prog) Hp.vals_length Hp.vals_one Tryz.underlying109 1
  refine wp_append_ln Hp.vals_length _ _ rfl Tryz.underlying109 hI hz0 hsz hby hzs hG (Nat.succ_le_of_lt bP.lt) hn rfl (M := [(takeH x)]) (by simp) hx rfl (by simp; omega) (by simp [maxLen]; omega) ?_
  intro ta' tk' u7 hG' hk' hA'
  replace bP := bP.kp hk' (fun hm => by have := hG.in _ hm; omega)
  have kP' := kP.trans (hk'.mono (fun i hi => by simp [hi]))
  refine hK.out _ _ (hHeld.kp hk' (fun hm => by have := hG0.in _ hm; omega)) (fun hHeld => ?_)
  clear hK K hG hx hg1
  try simp only [yy]
  refine tkQ 9 hHeld ?_
  try simp only [yy]
  refine tkQ 10 hHeld ?_
  try simp only [yy]
  refine rd1 11 (fun K hK => ?_)
  rw [if_pos (by rfl)]
  refine wp_store_one 109 _ _ rfl (off := 189) (.slice ta' (n + 1) tk') bP rfl rfl rfl rfl sizeHs (by rw [unc_size]; decide) ?_
  intro u8 hn9 hk9
  rw [unc_told] at hn9
  replace hG' := hG'.kp hk9 (by simp)
  replace kP' := kP'.trans (hk9.mono (fun i hi => by simp at hi; simp [hi]))
  refine hK.out _ _ (hHeld.kp1 hk9 (by omega)) (fun hHeld => ?_)
  clear hK K hk9 bP
  try simp only [yy]
  refine wpAnyH_done (by kernel_rfl) ?_ _
  go_wp2_with fail
  go_end0
  exact ⟨rfl, ta', tk', by rw [List.length_append, hn]; exact hn9, hG', kP', fun A hA => (hA' A hA).imp id (fun h => Nat.le_trans kP.size h)⟩
set_option maxHeartbeats 2000000 in
theorem promise_ok (P : Nat) (c : Co) (v : Value) (x : Idn) (m : Nat → Nat) (w : World) (b0 : Blk P (unc c v) 166 w) :
  Calls Tryz.prog 129 #[.pointer (some ⟨P, 0, none⟩), .agg x.arr, .agg (mbc m)] w fun e w' => e = .returned (.tuple #[]) ∧ Blk P (unc (promC c x m) v) 166 w' ∧ Kp [P] w w' := by
 have hP := b0.lt
 obtain ⟨a1, a2, hb⟩ := two_blk (T0 := 51) (T1 := 55) (C0 := x.arr) (C1 := mbc m) (w := w) rfl
 go_enter Tryz.func129, Tryz.ntmps129
 go_upto_region 1 with fail
 generalize (w.alloc (Obj.cells x.arr 51)).alloc (Obj.cells (mbc m) 55) = W at a1 a2 hb ⊢
 have bP := (b0.below hb).drew
 have kP : Kp [P] w W.drew := (Kp.of_below hb).trans (Kp.drew _ _)
 clear b0 hb
 refine wp_region_held_drew (S := fun w' => Blk w.heap.size x.arr 51 w' ∧ Blk (w.heap.size + 1) (mbc m) 55 w') (by kernel_rfl) ⟨a1.drew, a2.drew⟩ (fun hHeld => ?_)
 refine tkQ 0 hHeld ?_
 try simp only [yy]
 refine tkQ 1 hHeld ?_
 try simp only [yy]
 refine' tkH 2 (v := _) rfl (by kernel_rfl) (fun _ _ _ h => h) (yieldsIf_load_mid (by rfl) _ _ rfl w.heap.size 0 rfl x.vals _ ?hS13 Tryz.underlying51 rfl sizeIdn) hHeld ?_
 case hS13 => exact fun w h => h.1.whole
 try simp only [yy]
 refine' tkH 3 (v := _) rfl (by kernel_rfl) (fun _ _ _ h => h) (yieldsIf_load_mid (by rfl) _ _ rfl (w.heap.size + 1) 0 rfl (row8 m) _ ?hS14 Tryz.underlying55 rfl sizeMb) hHeld ?_
 case hS14 => exact fun w h => h.2.whole
 try simp only [yy]
 refine tkQ 4 hHeld ?_
 try simp only [yy]
 refine tkQ 5 hHeld ?_
 try simp only [yy]
 refine tkQ 6 hHeld ?_
 try simp only [yy]
 refine rd1 7 (fun K hK => ?_)
 rw [if_pos (by rfl)]
 refine wp_store_part 51 _ _ rfl (off := 40) (cells := x.arr) bP rfl rfl sizeIdn (show 40 + 3 ≤ 190 by decide) x.arr_one ?_
 intro u1 hn9 hk9
 rw [unc_put _ _ _ 40 _ (Co.s_pr c x) (show 40 + 3 ≤ 189 by decide)] at hn9
 replace bP := hn9
 replace kP := kP.trans (hk9.mono (fun i hi => by simp at hi; simp [hi]))
 refine hK.out _ _ ⟨hHeld.1.kp1 hk9 (by omega), hHeld.2.kp1 hk9 (by omega)⟩ (fun hHeld => ?_)
 clear hK K hk9 hn9
 try simp only [yy]
 refine tkQ 8 hHeld ?_
 try simp only [yy]
 refine tkQ 9 hHeld ?_
 try simp only [yy]
 refine tkQ 10 hHeld ?_
 try simp only [yy]
 refine rd1 11 (fun K hK => ?_)
 rw [if_pos (by rfl)]
 refine wp_store_part 55 _ _ rfl (off := 43) (cells := (mbc m)) bP rfl rfl sizeMb (show 43 + 8 ≤ 190 by decide) (mbc_one _) ?_
 intro u2 hn9 hk9
 rw [unc_put _ _ _ 43 _ (Co.s_want _ m) (show 43 + 8 ≤ 189 by decide)] at hn9
 replace bP := hn9
 replace kP := kP.trans (hk9.mono (fun i hi => by simp at hi; simp [hi]))
 refine hK.out _ _ ⟨hHeld.1.kp1 hk9 (by omega), hHeld.2.kp1 hk9 (by omega)⟩ (fun hHeld => ?_)
 clear hK K hk9 hn9
 try simp only [yy]
 refine wpAnyH_done (by kernel_rfl) ?_ _
 clear hHeld
 go_upto_region 2 with fail
 go_wp2_with (first | refine load_part rfl 60 _ rfl (o := 31) bP rfl (row8 c.count) (un_count _ _) Tryz.underlying60 rfl sizeCt ?_ | (refine store_part rfl 60 _ _ rfl (off := 51) (cells := (mbc c.count)) bP rfl rfl sizeCt (show 51 + 8 ≤ 190 by decide) (mbc_one _) ?_; intro w7 b7 k7; rw [unc_put _ _ _ 51 _ (Co.s_cut _ c.count) (show 51 + 8 ≤ 189 by decide)] at b7; have kp7 := kP.trans (k7.mono (fun i hi => by simp at hi; simp [hi]))) | (refine store_one rfl 4 _ _ rfl (off := 59) (.bool false) b7 rfl rfl rfl rfl sizeBool (by rw [unc_size]; decide) ?_; intro w8 b8 k8; rw [unc_set _ _ _ 59 _ (Co.s_rdy _ false) (by decide)] at b8; have kp8 := kp7.trans (k8.mono (fun i hi => by simp at hi; simp [hi]))))
 go_end0
 exact ⟨rfl, b8, kp8⟩
end Go.Proofs.YthgfpdidilolgaaGreat
