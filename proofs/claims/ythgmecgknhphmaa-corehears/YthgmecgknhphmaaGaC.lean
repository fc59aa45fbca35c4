/-
  What is known of a daemon behind its packet, as the document says: what the call answers.
  No condition.
-/
import Derived.Test.YthgmecgknhphmaaGaB
namespace Go.Proofs.Ythgmecgknhphmaa
set_option maxRecDepth 10000
open Go.RowKit Go.Sort
set_option linter.unusedVariables false

set_option maxHeartbeats 1000000 in
theorem rupdate_ok (x : Pe) (p : Pk) (w : World) : Calls Try.prog 53 #[.agg x.arr, .agg (pkc p)] w fun e w' => e = .returned (.agg (updP x (told p)).arr) ∧ Below w.heap.size w w' := by
  obtain ⟨a0, a1, a2, hB⟩ := three_blk (T0 := 32) (T1 := 50) (T2 := 32) (C0 := x.arr) (C1 := pkc p) (C2 := Pe.zero.arr) (w := w) rfl
  obtain ⟨R, HR⟩ : ∃ R, Hid (updP x (told p) = R) := ⟨_, rfl⟩
  rw [HR.out]
  have p1 := rcmp_ok p.pr x.pr
  have p2 := rcmp_ok p.conf x.conf
  have pu := fun (g : Nat) (u : World) (h : Blk g (flat row8 [x.cut, p.count]).toArray 29 u) => runion2_ok x.cut p.count h
  have h3 := cmpId_cases p.pr x.pr
  have h4 := cmpId_cases p.conf x.conf
  obtain ⟨k, hk⟩ : ∃ k, cmpId p.pr x.pr = k := ⟨_, rfl⟩
  obtain ⟨q, hq⟩ : ∃ k, cmpId p.conf x.conf = k := ⟨_, rfl⟩
  rw [hk] at p1 h3
  rw [hq] at p2 h4
  replace h3 : k = -1 ∨ k = 1 ∨ k = 0 := by rcases h3 with ⟨_, h⟩ | ⟨_, h⟩ | ⟨_, h⟩ <;> simp [h]
  replace h4 : q = -1 ∨ q = 1 ∨ q = 0 := by rcases h4 with ⟨_, h⟩ | ⟨_, h⟩ | ⟨_, h⟩ <;> simp [h]
  have hi := cmpN_cases (p.n 1) x.inc
  go_enter Try.func53, Try.ntmps53
  go_upto_region 1 with (refine alloc_zero zeroPe rfl rfl ?_)
  try simp only [Act.put, List.setIfInBounds_toArray, List.set_cons_zero, List.set_cons_succ]
  try simp only [alloc_size]
  generalize ((w.alloc (Obj.cells x.arr 32)).alloc (Obj.cells (pkc p) 50)).alloc (Obj.cells Pe.zero.arr 32) = W at a0 a1 a2 hB ⊢
  have c1 := a1.cell 1 (.int .u32 (p.n 1 : Int)) rfl
  have c0 := a0.cell 0 (.int .u32 (x.inc : Int)) rfl
  rcases hi with ⟨hi, hk0⟩ | ⟨hi, hk0⟩ | ⟨hi, hk0⟩
  · obtain rfl : R = x := by rw [← HR.out]; simp [updP, ordP, orI, told, hk0]
    have i0 : (p.n 1 : Int) < (R.inc : Int) := by omega
    clear HR hk hk0 hq p1 p2 pu h3 h4 hi
    go_wp2_with (first | refine load_blk rfl 32 _ rfl a0 rfl Try.underlying32 rfl sizePe ?_ | (refine store_part rfl 32 _ _ rfl (off := 0) (cells := R.arr) a2 rfl rfl sizePe (Nat.le_refl _) (Pe.arr_one _) ?_; intro w9 b9 k9; rw [Pe.all] at b9; have hB9 : Below w.heap.size w w9 := hB.trans (k9.below1 (by omega) hB.size)))
    exact bodyPost_ret (w := w9) (v := .agg R.arr) (ret_one rfl rfl b9 Try.underlying32 rfl sizePe) rfl ⟨rfl, hB9⟩
  · have e : told p = R := by rw [← HR.out]; simp [updP, ordP, orI, told, hk0]
    have i0 : ¬ (p.n 1 : Int) < (x.inc : Int) := by omega
    have i1 : (x.inc : Int) < (p.n 1 : Int) := by omega
    clear hk hk0 hq p2 pu h3 h4 hi HR
    go_wp2_with (first | refine load_part rfl 27 _ rfl (o := 21) a1 rfl p.pr.vals p.p_pr Try.underlying27 rfl sizeIdn ?_ | refine load_part rfl 27 _ rfl (o := 4) a0 rfl x.pr.vals x.p_pr Try.underlying27 rfl sizeIdn ?_)
    refine (p1 _).mono ?_
    rintro r w1 ⟨rfl, hb⟩
    clear c0 c1
    replace a0 := a0.below hb
    replace a1 := a1.below hb
    replace a2 := a2.below hb
    replace hB := hB.trans (hb.mono hB.size)
    clear hb p1
    have c1 := a1.cell 1 (.int .u32 (p.n 1 : Int)) rfl
    have c0 := a0.cell 0 (.int .u32 (x.inc : Int)) rfl
    have c2 := a1.cell 32 (.bool p.r) rfl
    subst e
    go_wp2_with (first | refine load_part rfl 27 _ rfl (o := 2) a1 rfl p.conf.vals p.p_conf Try.underlying27 rfl sizeIdn ?_ | refine load_part rfl 27 _ rfl (o := 21) a1 rfl p.pr.vals p.p_pr Try.underlying27 rfl sizeIdn ?_ | refine load_part rfl 29 _ rfl (o := 13) a1 rfl (row8 p.count) p.p_count Try.underlying29 rfl sizeCt ?_ | (refine build_as rfl 32 #[(0, .tmp 28), (1, .tmp 30), (2, .tmp 32), (3, .tmp 34), (4, .tmp 36)] rfl (C := (told p).arr) ?_ ?_; kernel_rfl) | (refine store_part rfl 32 _ _ rfl (off := 0) (cells := (told p).arr) a2 rfl rfl sizePe (Nat.le_refl _) (Pe.arr_one _) ?_; intro w9 b9 k9; rw [Pe.all] at b9; have hB9 : Below w.heap.size w w9 := hB.trans (k9.below1 (by omega) hB.size)))
    exact bodyPost_ret (w := w9) (v := .agg (told p).arr) (ret_one rfl rfl b9 Try.underlying32 rfl sizePe) rfl ⟨rfl, hB9⟩
  have i0 : ¬ (p.n 1 : Int) < (x.inc : Int) := by omega
  have i1 : ¬ (x.inc : Int) < (p.n 1 : Int) := by omega
  clear hi
  go_wp2_with (first | refine load_part rfl 27 _ rfl (o := 21) a1 rfl p.pr.vals p.p_pr Try.underlying27 rfl sizeIdn ?_ | refine load_part rfl 27 _ rfl (o := 4) a0 rfl x.pr.vals x.p_pr Try.underlying27 rfl sizeIdn ?_)
  refine (p1 _).mono ?_
  rintro r w1 ⟨rfl, hb⟩
  clear c0 c1
  replace a0 := a0.below hb
  replace a1 := a1.below hb
  replace a2 := a2.below hb
  replace hB := hB.trans (hb.mono hB.size)
  clear hb p1
  have c1 := a1.cell 1 (.int .u32 (p.n 1 : Int)) rfl
  have c0 := a0.cell 0 (.int .u32 (x.inc : Int)) rfl
  rcases h3 with rfl | rfl | rfl
  · obtain rfl : R = x := by rw [← HR.out]; simp [updP, ordP, orI, told, hk0, hk]
    clear HR hk hk0 hq p2 pu h4
    go_wp2_with (first | refine load_blk rfl 32 _ rfl a0 rfl Try.underlying32 rfl sizePe ?_ | (refine store_part rfl 32 _ _ rfl (off := 0) (cells := R.arr) a2 rfl rfl sizePe (Nat.le_refl _) (Pe.arr_one _) ?_; intro w9 b9 k9; rw [Pe.all] at b9; have hB9 : Below w.heap.size w w9 := hB.trans (k9.below1 (by omega) hB.size)))
    exact bodyPost_ret (w := w9) (v := .agg R.arr) (ret_one rfl rfl b9 Try.underlying32 rfl sizePe) rfl ⟨rfl, hB9⟩
  · have e : told p = R := by rw [← HR.out]; simp [updP, ordP, orI, told, hk0, hk]
    have c2 := a1.cell 32 (.bool p.r) rfl
    subst e
    clear HR hk hk0 hq p2 pu h4
    go_wp2_with (first | refine load_part rfl 27 _ rfl (o := 2) a1 rfl p.conf.vals p.p_conf Try.underlying27 rfl sizeIdn ?_ | refine load_part rfl 27 _ rfl (o := 21) a1 rfl p.pr.vals p.p_pr Try.underlying27 rfl sizeIdn ?_ | refine load_part rfl 29 _ rfl (o := 13) a1 rfl (row8 p.count) p.p_count Try.underlying29 rfl sizeCt ?_ | (refine build_as rfl 32 #[(0, .tmp 28), (1, .tmp 30), (2, .tmp 32), (3, .tmp 34), (4, .tmp 36)] rfl (C := (told p).arr) ?_ ?_; kernel_rfl) | (refine store_part rfl 32 _ _ rfl (off := 0) (cells := (told p).arr) a2 rfl rfl sizePe (Nat.le_refl _) (Pe.arr_one _) ?_; intro w9 b9 k9; rw [Pe.all] at b9; have hB9 : Below w.heap.size w w9 := hB.trans (k9.below1 (by omega) hB.size)))
    exact bodyPost_ret (w := w9) (v := .agg (told p).arr) (ret_one rfl rfl b9 Try.underlying32 rfl sizePe) rfl ⟨rfl, hB9⟩
  go_wp2_with (first | refine load_part rfl 27 _ rfl (o := 2) a1 rfl p.conf.vals p.p_conf Try.underlying27 rfl sizeIdn ?_ | refine load_part rfl 27 _ rfl (o := 1) a0 rfl x.conf.vals x.p_conf Try.underlying27 rfl sizeIdn ?_)
  refine (p2 _).mono ?_
  rintro r w2 ⟨rfl, hb⟩
  clear c0 c1
  replace a0 := a0.below hb
  replace a1 := a1.below hb
  replace a2 := a2.below hb
  replace hB := hB.trans (hb.mono hB.size)
  clear hb p2
  rcases h4 with rfl | rfl | rfl
  · clear pu
    go_upto_region 14 with fail
    cases hr : p.r with
    | true =>
      obtain rfl : R = ⟨x.inc, x.conf, x.pr, x.cut, true⟩ := by rw [← HR.out]; simp [updP, ordP, orI, told, togP, hk, hk0, hq, hr]
      have c2 := a1.cell 32 (.bool p.r) rfl
      rw [hr] at c2
      clear HR hk hk0 hq hr
      go_wp2_with (first | (refine store_one rfl 4 _ _ rfl (off := 15) (.bool true) a0 rfl rfl rfl rfl sizeBool (by show 15 + 1 ≤ 16; omega) ?_; intro w6 b6 k6; rw [Pe.s_rdy] at b6; replace a2 := a2.kp1 k6 (by omega); replace hB : Below w.heap.size w w6 := hB.trans (k6.below1 (by omega) hB.size)) | refine load_blk rfl 32 _ rfl b6 rfl Try.underlying32 rfl sizePe ?_ | (refine store_part rfl 32 _ _ rfl (off := 0) (cells := (Pe.mk x.inc x.conf x.pr x.cut true).arr) a2 rfl rfl sizePe (Nat.le_refl _) (Pe.arr_one _) ?_; intro w9 b9 k9; rw [Pe.all] at b9; have hB9 : Below w.heap.size w w9 := hB.trans (k9.below1 (by omega) hB.size)))
      exact bodyPost_ret (w := w9) (v := .agg (Pe.mk x.inc x.conf x.pr x.cut true).arr) (ret_one rfl rfl b9 Try.underlying32 rfl sizePe) rfl ⟨rfl, hB9⟩
    | false =>
      obtain rfl : R = ⟨x.inc, x.conf, x.pr, x.cut, x.rdy⟩ := by rw [← HR.out]; simp [updP, ordP, orI, told, togP, hk, hk0, hq, hr]
      have c2 := a1.cell 32 (.bool p.r) rfl
      rw [hr] at c2
      clear HR hk hk0 hq hr
      go_wp2_with (first | refine load_blk rfl 32 _ rfl a0 rfl Try.underlying32 rfl sizePe ?_ | (refine store_part rfl 32 _ _ rfl (off := 0) (cells := (Pe.mk x.inc x.conf x.pr x.cut x.rdy).arr) a2 rfl rfl sizePe (Nat.le_refl _) (Pe.arr_one _) ?_; intro w9 b9 k9; rw [Pe.all] at b9; have hB9 : Below w.heap.size w w9 := hB.trans (k9.below1 (by omega) hB.size)))
      exact bodyPost_ret (w := w9) (v := .agg (Pe.mk x.inc x.conf x.pr x.cut x.rdy).arr) (ret_one rfl rfl b9 Try.underlying32 rfl sizePe) rfl ⟨rfl, hB9⟩
  · clear pu
    go_upto_region 14 with (first | refine load_part rfl 27 _ rfl (o := 2) a1 rfl p.conf.vals p.p_conf Try.underlying27 rfl sizeIdn ?_ | refine load_part rfl 29 _ rfl (o := 13) a1 rfl (row8 p.count) p.p_count Try.underlying29 rfl sizeCt ?_ | (refine store_part rfl 27 _ _ rfl (off := 1) (cells := p.conf.arr) a0 rfl rfl sizeIdn (by show 1 + 3 ≤ 16; omega) p.conf.arr_one ?_; intro w5 b5 k5; rw [Pe.s_conf] at b5; replace a1 := a1.kp1 k5 (by omega); replace a2 := a2.kp1 k5 (by omega); replace hB : Below w.heap.size w w5 := hB.trans (k5.below1 (by omega) hB.size)) | (refine store_part rfl 29 _ _ rfl (off := 7) (cells := mbc p.count) b5 rfl rfl sizeCt (by show 7 + 8 ≤ 16; omega) (mbc_one _) ?_; intro w7 b7 k7; rw [Pe.s_cut] at b7; replace a1 := a1.kp1 k7 (by omega); replace a2 := a2.kp1 k7 (by omega); replace hB : Below w.heap.size w w7 := hB.trans (k7.below1 (by omega) hB.size)))
    cases hr : p.r with
    | true =>
      obtain rfl : R = ⟨x.inc, p.conf, x.pr, p.count, true⟩ := by rw [← HR.out]; simp [updP, ordP, orI, told, togP, hk, hk0, hq, hr]
      have c2 := a1.cell 32 (.bool p.r) rfl
      rw [hr] at c2
      clear HR hk hk0 hq hr
      go_wp2_with (first | (refine store_one rfl 4 _ _ rfl (off := 15) (.bool true) b7 rfl rfl rfl rfl sizeBool (by show 15 + 1 ≤ 16; omega) ?_; intro w6 b6 k6; rw [Pe.s_rdy] at b6; replace a2 := a2.kp1 k6 (by omega); replace hB : Below w.heap.size w w6 := hB.trans (k6.below1 (by omega) hB.size)) | refine load_blk rfl 32 _ rfl b6 rfl Try.underlying32 rfl sizePe ?_ | (refine store_part rfl 32 _ _ rfl (off := 0) (cells := (Pe.mk x.inc p.conf x.pr p.count true).arr) a2 rfl rfl sizePe (Nat.le_refl _) (Pe.arr_one _) ?_; intro w9 b9 k9; rw [Pe.all] at b9; have hB9 : Below w.heap.size w w9 := hB.trans (k9.below1 (by omega) hB.size)))
      exact bodyPost_ret (w := w9) (v := .agg (Pe.mk x.inc p.conf x.pr p.count true).arr) (ret_one rfl rfl b9 Try.underlying32 rfl sizePe) rfl ⟨rfl, hB9⟩
    | false =>
      obtain rfl : R = ⟨x.inc, p.conf, x.pr, p.count, x.rdy⟩ := by rw [← HR.out]; simp [updP, ordP, orI, told, togP, hk, hk0, hq, hr]
      have c2 := a1.cell 32 (.bool p.r) rfl
      rw [hr] at c2
      clear HR hk hk0 hq hr
      go_wp2_with (first | refine load_blk rfl 32 _ rfl b7 rfl Try.underlying32 rfl sizePe ?_ | (refine store_part rfl 32 _ _ rfl (off := 0) (cells := (Pe.mk x.inc p.conf x.pr p.count x.rdy).arr) a2 rfl rfl sizePe (Nat.le_refl _) (Pe.arr_one _) ?_; intro w9 b9 k9; rw [Pe.all] at b9; have hB9 : Below w.heap.size w w9 := hB.trans (k9.below1 (by omega) hB.size)))
      exact bodyPost_ret (w := w9) (v := .agg (Pe.mk x.inc p.conf x.pr p.count x.rdy).arr) (ret_one rfl rfl b9 Try.underlying32 rfl sizePe) rfl ⟨rfl, hB9⟩
  · go_upto_region 10 with fail
    go_wp2_with (first | refine load_part rfl 29 _ rfl (o := 7) a0 rfl (row8 x.cut) x.p_cut Try.underlying29 rfl sizeCt ?_ | refine load_part rfl 29 _ rfl (o := 13) a1 rfl (row8 p.count) p.p_count Try.underlying29 rfl sizeCt ?_ | (refine box_cc rfl _ _ rfl x.cut p.count rfl rfl ?_; intro g w3 g2 hb gl))
    replace a0 := a0.below hb
    replace a1 := a1.below hb
    replace a2 := a2.below hb
    replace hB := hB.trans (hb.mono hB.size)
    clear hb 
    refine (pu _ _ g2).mono ?_
    rintro r w4 ⟨rfl, hb⟩
    replace a0 := a0.below hb
    replace a1 := a1.below hb
    replace a2 := a2.below hb
    replace hB := hB.trans (hb.mono hB.size)
    clear hb pu g2 gl
    go_upto_region 14 with (refine store_part rfl 29 _ _ rfl (off := 7) (cells := mbc (maxC x.cut p.count)) a0 rfl rfl sizeCt (by show 7 + 8 ≤ 16; omega) (mbc_one _) ?_; intro w5 b5 k5; rw [Pe.s_cut] at b5; replace a1 := a1.kp1 k5 (by omega); replace a2 := a2.kp1 k5 (by omega); replace hB : Below w.heap.size w w5 := hB.trans (k5.below1 (by omega) hB.size))
    cases hr : p.r with
    | true =>
      obtain rfl : R = ⟨x.inc, x.conf, x.pr, (maxC x.cut p.count), true⟩ := by rw [← HR.out]; simp [updP, ordP, orI, told, togP, hk, hk0, hq, hr]
      have c2 := a1.cell 32 (.bool p.r) rfl
      rw [hr] at c2
      clear HR hk hk0 hq hr
      go_wp2_with (first | (refine store_one rfl 4 _ _ rfl (off := 15) (.bool true) b5 rfl rfl rfl rfl sizeBool (by show 15 + 1 ≤ 16; omega) ?_; intro w6 b6 k6; rw [Pe.s_rdy] at b6; replace a2 := a2.kp1 k6 (by omega); replace hB : Below w.heap.size w w6 := hB.trans (k6.below1 (by omega) hB.size)) | refine load_blk rfl 32 _ rfl b6 rfl Try.underlying32 rfl sizePe ?_ | (refine store_part rfl 32 _ _ rfl (off := 0) (cells := (Pe.mk x.inc x.conf x.pr (maxC x.cut p.count) true).arr) a2 rfl rfl sizePe (Nat.le_refl _) (Pe.arr_one _) ?_; intro w9 b9 k9; rw [Pe.all] at b9; have hB9 : Below w.heap.size w w9 := hB.trans (k9.below1 (by omega) hB.size)))
      exact bodyPost_ret (w := w9) (v := .agg (Pe.mk x.inc x.conf x.pr (maxC x.cut p.count) true).arr) (ret_one rfl rfl b9 Try.underlying32 rfl sizePe) rfl ⟨rfl, hB9⟩
    | false =>
      obtain rfl : R = ⟨x.inc, x.conf, x.pr, (maxC x.cut p.count), x.rdy⟩ := by rw [← HR.out]; simp [updP, ordP, orI, told, togP, hk, hk0, hq, hr]
      have c2 := a1.cell 32 (.bool p.r) rfl
      rw [hr] at c2
      clear HR hk hk0 hq hr
      go_wp2_with (first | refine load_blk rfl 32 _ rfl b5 rfl Try.underlying32 rfl sizePe ?_ | (refine store_part rfl 32 _ _ rfl (off := 0) (cells := (Pe.mk x.inc x.conf x.pr (maxC x.cut p.count) x.rdy).arr) a2 rfl rfl sizePe (Nat.le_refl _) (Pe.arr_one _) ?_; intro w9 b9 k9; rw [Pe.all] at b9; have hB9 : Below w.heap.size w w9 := hB.trans (k9.below1 (by omega) hB.size)))
      exact bodyPost_ret (w := w9) (v := .agg (Pe.mk x.inc x.conf x.pr (maxC x.cut p.count) x.rdy).arr) (ret_one rfl rfl b9 Try.underlying32 rfl sizePe) rfl ⟨rfl, hB9⟩

end Go.Proofs.Ythgmecgknhphmaa
