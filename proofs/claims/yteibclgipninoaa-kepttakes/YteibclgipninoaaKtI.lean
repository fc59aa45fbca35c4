/-
  The calls whose answers the document fixes: they come out as it says.
  No condition.
-/
import Derived.Test.YteibclgipninoaaKtE
namespace Go.Proofs.Yteibclgipninoaa
set_option maxRecDepth 10000
open Go.RowKit Go.Sort
set_option linter.unusedVariables false

theorem took_as {L : List Kt} {c : Nat → Nat} {t : Bool} {B n : Nat} {e : Ending} {w' : World} (hn : L.length = n) (h : Took L c t B e w') : ∃ a cp, e = .returned (.tuple #[.slice a n cp, .agg (mbc c), .bool t]) ∧ Li Kt.vals B a L w' := by
  subst hn
  exact h

def m1 : Nat → Nat := fun i => if i = 0 then 1 else 0
def k1 : Kt := ⟨0, 1, noFr, by decide⟩
def k2 : Kt := ⟨0, 2, noFr, by decide⟩
def k3 : Kt := ⟨0, 3, noFr, by decide⟩
theorem c0_lt (i : Nat) : noMb i < 4294967296 := by unfold noMb; decide
theorem c1_lt (i : Nat) : takeC noMb k1 i < 4294967296 := by
  unfold takeC put8
  split
  · exact k1.lt
  · exact c0_lt i
theorem c2_lt (i : Nat) : takeC (takeC noMb k1) k2 i < 4294967296 := by
  rw [takeC, put8]
  split
  · exact k2.lt
  · exact c1_lt i

set_option maxHeartbeats 8000000 in
theorem fixed_ok (w : World) : Calls Try.prog 14 #[] w fun e w' => e = .returned (.bool true) ∧ Below w.heap.size w w' := by
  have t1 : ∀ w, Calls Try.prog 8 #[.slice none 0 0, .agg (mbc noMb), .agg (mbc m1), .agg k1.arr] w fun e w' => (∃ a cp, e = .returned (.tuple #[.slice a 1 cp, .agg (mbc (takeC noMb k1)), .bool true]) ∧ Li Kt.vals 0 a [k1] w') ∧ Below w.heap.size w w' := fun w =>
    (take_yes [] none 0 noMb m1 k1 c0_lt (by decide) (by decide) w (Li.nil _ _ _)).mono fun e w' h => ⟨(took_as (n := 1) rfl h.1).imp fun a h => h.imp fun c h => ⟨h.1, h.2.mono (Nat.zero_le _)⟩, h.2⟩
  have t2 : ∀ a p w, Li Kt.vals 0 a [k1] w → Calls Try.prog 8 #[.slice a 1 p, .agg (mbc (takeC noMb k1)), .agg (mbc m1), .agg k3.arr] w fun e w' => (∃ a cp, e = .returned (.tuple #[.slice a 1 cp, .agg (mbc (takeC noMb k1)), .bool false]) ∧ Li Kt.vals 0 a [k1] w') ∧ Below w.heap.size w w' := fun a p w hS =>
    (take_no [k1] a p (takeC noMb k1) m1 k3 c1_lt (by decide) (by decide) w hS).mono fun e w' h => ⟨(took_as (n := 1) rfl h.1).imp fun a h => h.imp fun c h => ⟨h.1, h.2.mono (Nat.zero_le _)⟩, h.2⟩
  have t3 : ∀ a p w, Li Kt.vals 0 a [k1] w → Calls Try.prog 8 #[.slice a 1 p, .agg (mbc (takeC noMb k1)), .agg (mbc m1), .agg k2.arr] w fun e w' => (∃ a cp, e = .returned (.tuple #[.slice a 2 cp, .agg (mbc (takeC (takeC noMb k1) k2)), .bool true]) ∧ Li Kt.vals w.heap.size a [k1, k2] w') ∧ Below w.heap.size w w' := fun a p w hS =>
    (take_yes [k1] a p (takeC noMb k1) m1 k2 c1_lt (by decide) (by decide) w hS).mono fun e w' h => ⟨took_as (n := 2) rfl h.1, h.2⟩
  have t4 : ∀ a p w, Li Kt.vals 0 a [k1, k2] w → Calls Try.prog 8 #[.slice a 2 p, .agg (mbc (takeC (takeC noMb k1) k2)), .agg (mbc m1), .agg k2.arr] w fun e w' => (∃ a cp, e = .returned (.tuple #[.slice a 2 cp, .agg (mbc (takeC (takeC noMb k1) k2)), .bool false]) ∧ Li Kt.vals 0 a [k1, k2] w') ∧ Below w.heap.size w w' := fun a p w hS =>
    (take_no [k1, k2] a p (takeC (takeC noMb k1) k2) m1 k2 c2_lt (by decide) (by decide) w hS).mono fun e w' h => ⟨(took_as (n := 2) rfl h.1).imp fun a h => h.imp fun c h => ⟨h.1, h.2.mono (Nat.zero_le _)⟩, h.2⟩
  have g1 : ∀ a p w, Li Kt.vals 0 a [k1, k2] w → Calls Try.prog 10 #[.slice a 2 p, .int .i64 0, .int .u32 3] w fun e w' => e = .returned (.tuple #[.agg (frc noFr), .bool false]) ∧ Below w.heap.size w w' := fun a p w hS => get_ok [k1, k2] a p 0 3 (by decide) w hS
  have g2 : ∀ a p w, Li Kt.vals 0 a [k1, k2] w → Calls Try.prog 10 #[.slice a 2 p, .int .i64 0, .int .u32 1] w fun e w' => e = .returned (.tuple #[.agg (frc k1.f), .bool true]) ∧ Below w.heap.size w w' := fun a p w hS => get_ok [k1, k2] a p 0 1 (by decide) w hS
  have g3 : ∀ a p w, Li Kt.vals 0 a [k1, k2] w → Calls Try.prog 12 #[.slice a 2 p, .int .u32 3] w fun e w' => e = .returned (.tuple #[.agg k2.arr, .bool true]) ∧ Below w.heap.size w w' := fun a p w hS => pick_ok [k1, k2] a p 3 (by decide) (by decide) w hS
  have hc20 : (mbc (takeC (takeC noMb k1) k2))[0]? = some (.int .u32 2) := rfl
  have hpa : ∀ c d, putAt (mbc c) 0 (mbc d).toList = mbc d := fun c d => putAt_all _ _ rfl
  have b0 := blk_new w (mbc m1) 26
  have hB : Below w.heap.size w (w.alloc (.cells (mbc m1) 26)) := below_box w _
  go_enter Try.func14, Try.ntmps14
  go_upto_region 2 with (first | refine build_as rfl 26 #[(0, .const (.int .u32 1))] rfl (C := mbc m1) (by kernel_rfl) ?_ | refine alloc_zero zeroMb rfl rfl ?_ | refine store_new rfl 26 _ _ rfl (cells := mbc m1) rfl rfl sizeMb rfl (mbc_one _) ?_)
  try simp only [Act.put]
  generalize w.alloc (Obj.cells (mbc m1) 26) = W at b0 hB ⊢
  go_wp2_with (first | refine build_zero builtCt rfl rfl ?_ | refine load_blk rfl 26 _ rfl b0 rfl Try.underlying26 rfl sizeMb ?_ | refine build_as rfl 36 #[(1, .const (.int .u32 1))] rfl (C := k1.arr) (by kernel_rfl) ?_)
  refine (t1 _).mono ?_
  rintro r w1 ⟨⟨a1, q1, rfl, l1⟩, hb⟩
  replace b0 := b0.below hb
  replace hB := hB.trans (hb.mono hB.size)
  clear hb
  have hw1 := b0.lt
  have hb := below_box w1 (.cells (mbc (takeC noMb k1)) 25)
  have n1 := blk_new w1 (mbc (takeC noMb k1)) 25
  go_upto_region 3 with (first | refine alloc_zero zeroCt rfl rfl ?_ | refine store_new rfl 25 _ _ rfl (cells := (mbc (takeC noMb k1))) rfl rfl sizeCt rfl (mbc_one _) ?_)
  try simp only [Act.put]
  generalize w1.alloc (Obj.cells (mbc (takeC noMb k1)) 25) = W1 at n1 hb ⊢
  replace b0 := b0.below hb
  replace l1 := l1.below hb
  replace hB := hB.trans (hb.mono hB.size)
  clear hb
  have b1 := n1
  clear n1
  go_wp2_with (first | refine build_zero builtCt rfl rfl ?_ | refine load_blk rfl 26 _ rfl b0 rfl Try.underlying26 rfl sizeMb ?_ | refine load_blk rfl 25 _ rfl b1 rfl Try.underlying25 rfl sizeCt ?_ | refine build_as rfl 36 #[(1, .const (.int .u32 3))] rfl (C := k3.arr) (by kernel_rfl) ?_)
  refine (t2 a1 q1 _ l1).mono ?_
  rintro r w2 ⟨⟨a2, q2, rfl, l2⟩, hb⟩
  clear l2
  replace b0 := b0.below hb
  replace b1 := b1.below hb
  replace l1 := l1.below hb
  replace hB := hB.trans (hb.mono hB.size)
  clear hb
  have hb := below_box w2 (.cells (mbc (takeC noMb k1)) 25)
  have n2 := blk_new w2 (mbc (takeC noMb k1)) 25
  go_upto_region 4 with (first | refine alloc_zero zeroCt rfl rfl ?_ | refine store_new rfl 25 _ _ rfl (cells := (mbc (takeC noMb k1))) rfl rfl sizeCt rfl (mbc_one _) ?_)
  try simp only [Act.put]
  generalize w2.alloc (Obj.cells (mbc (takeC noMb k1)) 25) = W2 at n2 hb ⊢
  replace b0 := b0.below hb
  replace b1 := b1.below hb
  replace l1 := l1.below hb
  replace hB := hB.trans (hb.mono hB.size)
  clear hb
  clear n2
  have hw2 := b1.lt
  go_wp2_with (first | refine build_zero builtCt rfl rfl ?_ | refine load_blk rfl 26 _ rfl b0 rfl Try.underlying26 rfl sizeMb ?_ | refine load_blk rfl 25 _ rfl b1 rfl Try.underlying25 rfl sizeCt ?_ | refine build_as rfl 36 #[(1, .const (.int .u32 2))] rfl (C := k2.arr) (by kernel_rfl) ?_)
  refine (t3 a1 q1 _ l1).mono ?_
  rintro r w3 ⟨⟨a3, q3, rfl, l3⟩, hb⟩
  replace b0 := b0.below hb
  replace b1 := b1.below hb
  replace hB := hB.trans (hb.mono hB.size)
  clear hb
  clear l1
  have p1 := b1.lt
  go_upto_region 5 with (refine store_part rfl 25 _ _ rfl (off := 0) (cells := mbc (takeC (takeC noMb k1) k2)) b1 rfl rfl sizeCt (Nat.le_refl _) (mbc_one _) ?_; intro u3 c3 k3'; rw [hpa] at c3)
  try simp only [Act.put]
  replace b0 := b0.kp1 k3' (by omega)
  replace l3 := l3.kp k3' (by simp; omega)
  replace hB := hB.trans (k3'.below1 (by omega) hB.size)
  replace b1 := c3
  clear c3 k3'
  go_wp2_with (first | refine build_zero builtCt rfl rfl ?_ | refine load_blk rfl 26 _ rfl b0 rfl Try.underlying26 rfl sizeMb ?_ | refine load_blk rfl 25 _ rfl b1 rfl Try.underlying25 rfl sizeCt ?_ | refine build_as rfl 36 #[(1, .const (.int .u32 2))] rfl (C := k2.arr) (by kernel_rfl) ?_)
  refine (t4 a3 q3 _ (l3.mono (Nat.zero_le _))).mono ?_
  rintro r w4 ⟨⟨a4, q4, rfl, l4⟩, hb⟩
  clear l4
  replace b0 := b0.below hb
  replace b1 := b1.below hb
  replace l3 := l3.below hb
  replace hB := hB.trans (hb.mono hB.size)
  clear hb
  have hb := below_box w4 (.cells (mbc (takeC (takeC noMb k1) k2)) 25)
  have n4 := blk_new w4 (mbc (takeC (takeC noMb k1) k2)) 25
  go_upto_region 6 with (first | refine alloc_zero zeroCt rfl rfl ?_ | refine store_new rfl 25 _ _ rfl (cells := (mbc (takeC (takeC noMb k1) k2))) rfl rfl sizeCt rfl (mbc_one _) ?_)
  try simp only [Act.put]
  generalize w4.alloc (Obj.cells (mbc (takeC (takeC noMb k1) k2)) 25) = W4 at n4 hb ⊢
  replace b0 := b0.below hb
  replace b1 := b1.below hb
  replace l3 := l3.below hb
  replace hB := hB.trans (hb.mono hB.size)
  clear hb
  clear n4 b0
  go_wp2_with fail
  refine (g1 a3 q3 _ (l3.mono (Nat.zero_le _))).mono ?_
  rintro r w5 ⟨rfl, hb⟩
  replace b1 := b1.below hb
  replace l3 := l3.below hb
  replace hB := hB.trans (hb.mono hB.size)
  clear hb
  have hb := below_box w5 (.cells (frc noFr) 34)
  have n5 := blk_new w5 (frc noFr) 34
  go_upto_region 7 with (first | refine alloc_zero zeroFr rfl rfl ?_ | refine store_new rfl 34 _ _ rfl (cells := (frc noFr)) rfl rfl sizeFr rfl (frc_one _) ?_)
  try simp only [Act.put]
  generalize w5.alloc (Obj.cells (frc noFr) 34) = W5 at n5 hb ⊢
  replace b1 := b1.below hb
  replace l3 := l3.below hb
  replace hB := hB.trans (hb.mono hB.size)
  clear hb
  clear n5
  go_wp2_with fail
  refine (g2 a3 q3 _ (l3.mono (Nat.zero_le _))).mono ?_
  rintro r w6 ⟨rfl, hb⟩
  replace b1 := b1.below hb
  replace l3 := l3.below hb
  replace hB := hB.trans (hb.mono hB.size)
  clear hb
  have hb := below_box w6 (.cells (frc k1.f) 34)
  have n6 := blk_new w6 (frc k1.f) 34
  go_upto_region 8 with (first | refine alloc_zero zeroFr rfl rfl ?_ | refine store_new rfl 34 _ _ rfl (cells := (frc k1.f)) rfl rfl sizeFr rfl (frc_one _) ?_)
  try simp only [Act.put]
  generalize w6.alloc (Obj.cells (frc k1.f) 34) = W6 at n6 hb ⊢
  replace b1 := b1.below hb
  replace l3 := l3.below hb
  replace hB := hB.trans (hb.mono hB.size)
  clear hb
  clear n6
  go_wp2_with fail
  refine (g3 a3 q3 _ (l3.mono (Nat.zero_le _))).mono ?_
  rintro r w7 ⟨rfl, hb⟩
  replace b1 := b1.below hb
  replace l3 := l3.below hb
  replace hB := hB.trans (hb.mono hB.size)
  clear hb
  have hb := below_box w7 (.cells k2.arr 36)
  have n7 := blk_new w7 k2.arr 36
  go_upto_region 9 with (first | refine alloc_zero zeroKt rfl rfl ?_ | refine store_new rfl 36 _ _ rfl (cells := k2.arr) rfl rfl sizeKt rfl (Kt.arr_one _) ?_)
  try simp only [Act.put]
  generalize w7.alloc (Obj.cells k2.arr 36) = W7 at n7 hb ⊢
  replace b1 := b1.below hb
  replace l3 := l3.below hb
  replace hB := hB.trans (hb.mono hB.size)
  clear hb
  have z0 : W7.cell? ⟨w7.heap.size, 1, none⟩ = some (.int .u32 2) := n7.cell 1 _ rfl
  have z1 := b1.cell 0 _ hc20
  clear l3 n7 b1
  go_wp2_with fail
  go_ret
  exact ⟨rfl, hB⟩

end Go.Proofs.Yteibclgipninoaa
