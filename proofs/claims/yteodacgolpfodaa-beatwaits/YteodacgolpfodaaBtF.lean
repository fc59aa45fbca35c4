/-
  The calls whose answers the document fixes answer so: fixed returns true.
  No condition.
-/
import Derived.Test.YteodacgolpfodaaBtB
namespace Go.Proofs.Yteodacgolpfodaa
set_option maxRecDepth 10000
open Go.RowKit Go.Sort

def g0 : Bt := ⟨5, noMb, noMb⟩
def g1 : Bt := hearB g0 3 2
def g2 : Bt := tickB g1
def g3 : Bt := tickB g2
def m1 : Nat → Nat := fun i => if i = 0 then 1 else if i = 3 then 2 else 0
def m2 : Nat → Nat := fun i => if i = 0 then 1 else 0
theorem g_hear (u : World) : Calls Try.prog 7 #[.agg g0.arr, .int .i64 3, .int .u32 2] u fun e w' => e = .returned (.tuple #[.agg g1.arr, .bool true]) ∧ Below u.heap.size u w' := by
  have h := hear_ok g0 3 2 u
  rw [show hearsB g0 3 2 = true by decide +kernel] at h
  exact h
theorem g_old (u : World) : Calls Try.prog 7 #[.agg g3.arr, .int .i64 3, .int .u32 1] u fun e w' => e = .returned (.tuple #[.agg g3.arr, .bool false]) ∧ Below u.heap.size u w' := by
  have h := hear_ok g3 3 1 u
  have ho : hearsB g3 3 1 = false := by decide +kernel
  rw [show hearB g3 3 1 = g3 by rw [hearB, ho]; rfl, ho] at h
  exact h
theorem g_r1 (u : World) : Calls Try.prog 12 #[.agg g1.arr, .int .i64 0, .int .u32 1, .int .u32 1] u fun e w' => e = .returned (.agg (mbc m1)) ∧ Below u.heap.size u w' := by
  have h := reach_ok g1 0 1 1 (by decide +kernel) u
  rw [show mbc (rchB g1 0 1 1) = mbc m1 from mbc_ext (by decide +kernel)] at h
  exact h
theorem g_r2 (u : World) : Calls Try.prog 12 #[.agg g2.arr, .int .i64 0, .int .u32 1, .int .u32 1] u fun e w' => e = .returned (.agg (mbc m1)) ∧ Below u.heap.size u w' := by
  have h := reach_ok g2 0 1 1 (by decide +kernel) u
  rw [show mbc (rchB g2 0 1 1) = mbc m1 from mbc_ext (by decide +kernel)] at h
  exact h
theorem g_r3 (u : World) : Calls Try.prog 12 #[.agg g3.arr, .int .i64 0, .int .u32 1, .int .u32 1] u fun e w' => e = .returned (.agg (mbc m2)) ∧ Below u.heap.size u w' := by
  have h := reach_ok g3 0 1 1 (by decide +kernel) u
  rw [show mbc (rchB g3 0 1 1) = mbc m2 from mbc_ext (by decide +kernel)] at h
  exact h

set_option maxHeartbeats 1000000 in
theorem fixed_ok (w : World) : Calls Try.prog 9 #[] w fun e w' => e = .returned (.bool true) ∧ Below w.heap.size w w' := by
  have k1 := eqlMb m1 m1 true (mbSame_self _)
  have k2 := eqlMb m2 m2 true (mbSame_self _)
  go_enter Try.func9, Try.ntmps9
  go_wp2_with (refine build_as rfl 25 #[(0, .const (.int .u32 5))] rfl (C := g0.arr) (by kernel_rfl) ?_)
  refine (g_hear _).mono ?_
  rintro r w1 ⟨rfl, hB1⟩
  have c1 := blk_new w1 g1.arr 25
  have hB1 : Below w.heap.size w (w1.alloc (.cells g1.arr 25)) := hB1.alloc hB1.size _
  go_wp2_with (first | refine alloc_zero zeroBt rfl rfl ?_ | refine store_new rfl 25 _ _ rfl (cells := g1.arr) rfl rfl g1.size rfl g1.arr_one ?_ | refine load_blk rfl 25 _ rfl c1 rfl Try.underlying25 rfl g1.size ?_)
  refine (tick_ok g1 _).mono ?_
  rintro r w2 ⟨rfl, hb⟩
  have c1 := c1.below hb
  have hB2 := hB1.trans (hb.mono hB1.size)
  have l1 := c1.lt
  generalize w1.heap.size = p1 at c1 l1 ⊢
  clear hb hB1
  have c1 := c1.alloc (.cells g2.arr 25)
  have c2 := blk_new w2 g2.arr 25
  have hB2 : Below w.heap.size w (w2.alloc (.cells g2.arr 25)) := hB2.alloc hB2.size _
  rw [show tickB g1 = g2 from rfl]
  go_wp2_with (first | refine alloc_zero zeroBt rfl rfl ?_ | refine store_new rfl 25 _ _ rfl (cells := g2.arr) rfl rfl g2.size rfl g2.arr_one ?_ | refine load_blk rfl 25 _ rfl c2 rfl Try.underlying25 rfl g2.size ?_)
  refine (tick_ok g2 _).mono ?_
  rintro r w3 ⟨rfl, hb⟩
  have c1 := c1.below hb
  have c2 := c2.below hb
  have hB3 := hB2.trans (hb.mono hB2.size)
  generalize w2.heap.size = p2 at c2 ⊢
  clear hb hB2
  have c1 := c1.alloc (.cells g3.arr 25)
  have c2 := c2.alloc (.cells g3.arr 25)
  have c3 := blk_new w3 g3.arr 25
  have hB3 : Below w.heap.size w (w3.alloc (.cells g3.arr 25)) := hB3.alloc hB3.size _
  rw [show tickB g2 = g3 from rfl]
  go_wp2_with (first | refine alloc_zero zeroBt rfl rfl ?_ | refine store_new rfl 25 _ _ rfl (cells := g3.arr) rfl rfl g3.size rfl g3.arr_one ?_ | refine load_blk rfl 25 _ rfl c3 rfl Try.underlying25 rfl g3.size ?_)
  refine (g_old _).mono ?_
  rintro r w4 ⟨rfl, hb⟩
  have c1 := c1.below hb
  have c2 := c2.below hb
  have c3 := c3.below hb
  have hB4 := hB3.trans (hb.mono hB3.size)
  generalize w3.heap.size = p3 at c3 ⊢
  clear hb hB3
  have c1 := c1.alloc (.cells g3.arr 25)
  have c2 := c2.alloc (.cells g3.arr 25)
  have c3 := c3.alloc (.cells g3.arr 25)
  have hB4 : Below w.heap.size w (w4.alloc (.cells g3.arr 25)) := hB4.alloc hB4.size _
  go_wp2_with (first | refine alloc_zero zeroBt rfl rfl ?_ | refine store_new rfl 25 _ _ rfl (cells := g3.arr) rfl rfl g3.size rfl g3.arr_one ?_ | refine load_want rfl 25 _ rfl c1 rfl Try.underlying25 rfl g1.size ?_)
  refine (g_r1 _).mono ?_
  rintro r w5 ⟨rfl, hb⟩
  have c2 := c2.below hb
  have c3 := c3.below hb
  have hB5 := hB4.trans (hb.mono hB4.size)
  clear hb hB4 c1
  go_wp2_with (first | refine load_want rfl 25 _ rfl c2 rfl Try.underlying25 rfl g2.size ?_ | refine build_want rfl 32 #[(0, .const (.int .u32 1)), (1, .const (.int .u32 0)), (2, .const (.int .u32 0)), (3, .const (.int .u32 2))] rfl (C := mbc m1) (by kernel_rfl) ?_)
  refine (g_r2 _).mono ?_
  rintro r w6 ⟨rfl, hb⟩
  have c3 := c3.below hb
  have hB6 := hB5.trans (hb.mono hB5.size)
  clear hb hB5 c2
  go_wp2_with (first | refine load_want rfl 25 _ rfl c3 rfl Try.underlying25 rfl g3.size ?_ | refine build_want rfl 32 #[(0, .const (.int .u32 1)), (1, .const (.int .u32 0)), (2, .const (.int .u32 0)), (3, .const (.int .u32 2))] rfl (C := mbc m1) (by kernel_rfl) ?_)
  refine (g_r3 _).mono ?_
  rintro r w7 ⟨rfl, hb⟩
  have hB7 := hB6.trans (hb.mono hB6.size)
  clear hb hB6 c3
  go_wp2_with (refine build_want rfl 32 #[(0, .const (.int .u32 1))] rfl (C := mbc m2) (by kernel_rfl) ?_)
  go_ret
  exact ⟨rfl, hB7⟩

end Go.Proofs.Yteodacgolpfodaa
