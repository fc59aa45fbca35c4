/-
  The calls whose answers the document fixes: congresslaw14's fixed returns true.
  No condition.
-/
import Derived.Test.YthkfolohhdafkaaLeE
namespace Go.Proofs.Ythkfolohhdafkaa
set_option maxRecDepth 10000
open Go.RowKit Go.Sort
set_option linter.unusedVariables false
set_option linter.unusedSimpArgs false

theorem thr_small : ∀ x ∈ thr, x.small := by
  intro x hx
  simp only [thr, List.mem_cons, List.not_mem_nil, or_false] at hx
  rcases hx with rfl | rfl | rfl <;> exact (by decide : (1 : Nat) ≤ 140737488351232)

set_option maxHeartbeats 4000000 in
theorem fixed_ok (w : World) : Calls Try.prog 15 #[] w fun e w' => e = .returned (.bool true) ∧ Below w.heap.size w w' := by
  have q10 : (leftL 0 1 4 thr).length = 2 := by kernel_rfl
  have q11 : gotL 0 1 4 thr = lB := by kernel_rfl
  have q12 : isL 0 1 4 thr = true := by kernel_rfl
  have q20 : (leftL 0 1 (-1) thr).length = 2 := by kernel_rfl
  have q21 : gotL 0 1 (-1) thr = lC := by kernel_rfl
  have q22 : isL 0 1 (-1) thr = true := by kernel_rfl
  have q30 : (leftL 1 0 0 thr).length = 3 := by kernel_rfl
  have q31 : gotL 1 0 0 thr = Le.zero := by kernel_rfl
  have q32 : isL 1 0 0 thr = false := by kernel_rfl
  have q40 : (trnL 0 1 0 0 1 thr).length = 3 := by kernel_rfl
  have q41 : (trnL 0 1 0 0 1 thr)[0]? = some ⟨0, 1, ⟨#[96]⟩, true⟩ := by kernel_rfl
  have q50 : (plc 0 1 thr).length = 3 := by kernel_rfl
  have q60 : (putL thr thr).length = 6 := by kernel_rfl
  have hB : Below w.heap.size w w := Below.refl _ _
  go_enter Try.func15, Try.ntmps15
  go_wp2_with fail
  refine (lthree_ok _).mono ?_
  rintro r w1a ⟨⟨a1, rfl, h1⟩, hb⟩
  replace hB := below_next hB hb
  clear hb
  go_wp2_with fail
  refine (ltake_ok thr a1 3 (0) (1) (4) (by decide) (by decide) (by decide) (by decide) _ (h1.li.mono (Nat.zero_le _))).mono ?_
  rintro r w1b ⟨⟨b1, c1, rfl, _⟩, hb⟩
  replace hB := below_next hB hb
  clear hb h1
  rw [q10, q11, q12]
  have v1 := blk_new w1b lB.arr 27
  have hb := below_box w1b (.cells lB.arr 27)
  go_upto_region 2 with (go_big_may; first | refine alloc_zero zeroLe rfl rfl ?_ | refine store_new rfl 27 _ _ rfl (cells := lB.arr) rfl rfl sizeLe rfl lB.arr_one ?_)
  try simp only [Act.put]
  generalize w1b.alloc (Obj.cells lB.arr 27) = V1 at v1 hb ⊢
  replace hB := below_next hB hb
  clear hb
  generalize w1b.heap.size = z1 at v1 ⊢
  go_wp2_with fail
  refine (lthree_ok _).mono ?_
  rintro r w2a ⟨⟨a2, rfl, h2⟩, hb⟩
  replace v1 := v1.below hb
  replace hB := below_next hB hb
  clear hb
  go_wp2_with fail
  refine (ltake_ok thr a2 3 (0) (1) (-1) (by decide) (by decide) (by decide) (by decide) _ (h2.li.mono (Nat.zero_le _))).mono ?_
  rintro r w2b ⟨⟨b2, c2, rfl, _⟩, hb⟩
  replace v1 := v1.below hb
  replace hB := below_next hB hb
  clear hb h2
  rw [q20, q21, q22]
  have v2 := blk_new w2b lC.arr 27
  have hb := below_box w2b (.cells lC.arr 27)
  go_upto_region 3 with (go_big_may; first | refine alloc_zero zeroLe rfl rfl ?_ | refine store_new rfl 27 _ _ rfl (cells := lC.arr) rfl rfl sizeLe rfl lC.arr_one ?_)
  try simp only [Act.put]
  generalize w2b.alloc (Obj.cells lC.arr 27) = V2 at v2 hb ⊢
  replace v1 := v1.below hb
  replace hB := below_next hB hb
  clear hb
  generalize w2b.heap.size = z2 at v2 ⊢
  go_wp2_with fail
  refine (lthree_ok _).mono ?_
  rintro r w3a ⟨⟨a3, rfl, h3⟩, hb⟩
  replace v1 := v1.below hb
  replace v2 := v2.below hb
  replace hB := below_next hB hb
  clear hb
  go_wp2_with fail
  refine (ltake_ok thr a3 3 (1) (0) (0) (by decide) (by decide) (by decide) (by decide) _ (h3.li.mono (Nat.zero_le _))).mono ?_
  rintro r w3b ⟨⟨b3, c3, rfl, _⟩, hb⟩
  replace v1 := v1.below hb
  replace v2 := v2.below hb
  replace hB := below_next hB hb
  clear hb h3
  rw [q30, q31, q32]
  have v3 := blk_new w3b Le.zero.arr 27
  have hb := below_box w3b (.cells Le.zero.arr 27)
  go_upto_region 4 with (go_big_may; first | refine alloc_zero zeroLe rfl rfl ?_ | refine store_new rfl 27 _ _ rfl (cells := Le.zero.arr) rfl rfl sizeLe rfl Le.zero.arr_one ?_)
  try simp only [Act.put]
  generalize w3b.alloc (Obj.cells Le.zero.arr 27) = V3 at v3 hb ⊢
  replace v1 := v1.below hb
  replace v2 := v2.below hb
  replace hB := below_next hB hb
  clear hb
  generalize w3b.heap.size = z3 at v3 ⊢
  go_wp2_with fail
  refine (lthree_ok _).mono ?_
  rintro r w4a ⟨⟨a4, rfl, h4⟩, hb⟩
  replace v1 := v1.below hb
  replace v2 := v2.below hb
  replace hB := below_next hB hb
  clear hb v3
  go_wp2_with fail
  refine (turn_ok thr a4 3 0 1 0 0 1 (by decide) (by decide) (by decide) (by decide) thr_small _ (h4.li.mono (Nat.zero_le _))).mono ?_
  rintro r w4b ⟨⟨b4, c4, rfl, t4⟩, hb⟩
  replace v1 := v1.below hb
  replace v2 := v2.below hb
  replace hB := below_next hB hb
  clear hb h4
  rw [q40]
  have x1 : w4b.cell? ⟨z1, 2, none⟩ = some (.string ⟨#[98]⟩) := v1.cell 2 _ rfl
  have x2 : w4b.cell? ⟨z2, 2, none⟩ = some (.string ⟨#[99]⟩) := v2.cell 2 _ rfl
  obtain ⟨g, o, rfl, _, _, hr⟩ := t4.li.at Le.vals_length 0 ⟨0, 1, ⟨#[96]⟩, true⟩ q41
  have x3 : w4b.cell? ⟨g, o + 2, none⟩ = some (.string ⟨#[96]⟩) := by have := hr 2 _ rfl; simpa using this
  clear v1 v2 hr t4
  go_wp2_with fail
  refine (lthree_ok _).mono ?_
  rintro r w5a ⟨⟨a5, rfl, h5⟩, hb⟩
  replace hB := below_next hB hb
  clear hb x1 x2 x3
  go_wp2_with fail
  refine (lmany_ok thr a5 3 0 1 (by decide) _ (h5.li.mono (Nat.zero_le _))).mono ?_
  rintro r w5b ⟨rfl, hb⟩
  replace hB := below_next hB hb
  clear hb h5
  rw [q50]
  go_wp2_with fail
  refine (lthree_ok _).mono ?_
  rintro r w6a ⟨⟨a6, rfl, h6⟩, hb⟩
  replace hB := below_next hB hb
  clear hb
  go_wp2_with fail
  refine (lthree_ok _).mono ?_
  rintro r w6b ⟨⟨a7, rfl, h7⟩, hb⟩
  replace h6 := h6.below hb
  replace hB := below_next hB hb
  clear hb
  go_wp2_with fail
  refine (lput_ok thr thr a6 a7 3 3 (by decide) (by decide) (by decide) (by decide) _ (h6.li.mono (Nat.zero_le _)) (h7.li.mono (Nat.zero_le _))).mono ?_
  rintro r w6c ⟨⟨b6, c6, rfl, _⟩, hb⟩
  replace hB := below_next hB hb
  clear hb h6 h7
  rw [q60]
  go_wp2_with fail
  go_ret
  exact ⟨rfl, hB⟩

end Go.Proofs.Ythkfolohhdafkaa
