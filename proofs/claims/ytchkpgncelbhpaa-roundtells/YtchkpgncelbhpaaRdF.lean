/-
  The calls whose answers the document fixes: they come out as it says.
  No condition.
-/
import Derived.Test.YtchkpgncelbhpaaRdB
import Derived.Test.YtchkpgncelbhpaaRdD
namespace Go.Proofs.Ytchkpgncelbhpaa
set_option maxRecDepth 10000
open Go.RowKit Go.Sort

def m3 : Nat → Nat := fun i => if i < 3 then 1 else 0
def c211 : Nat → Nat := fun i => if i = 0 then 2 else if i < 3 then 1 else 0
def c222 : Nat → Nat := fun i => if i < 3 then 2 else 0
theorem c211_lt (i : Nat) : c211 i < 4294967296 := by unfold c211; split <;> (try split) <;> omega

set_option maxHeartbeats 4000000 in
theorem fixed_ok (w : World) : Calls Try.prog 10 #[] w fun e w' => e = .returned (.bool true) ∧ Below w.heap.size w w' := by
  have g_l := cleast_ok c211 m3
  rw [show leastC c211 m3 = 1 by decide, show (!(lst m3).isEmpty) = true by decide] at g_l
  have g_s0 := svc_ok c211 m3 ⟨2, 0, 0⟩ 0 (by decide)
  rw [show svcB c211 m3 ⟨2, 0, 0⟩ 0 = true by decide] at g_s0
  have g_s1 := svc_ok c211 m3 ⟨2, 0, 0⟩ 1 (by decide)
  rw [show svcB c211 m3 ⟨2, 0, 0⟩ 1 = true by decide] at g_s1
  have g_s2 := svc_ok c211 m3 ⟨2, 0, 0⟩ 2 (by decide)
  rw [show svcB c211 m3 ⟨2, 0, 0⟩ 2 = true by decide] at g_s2
  have g_s3 := svc_ok c211 m3 ⟨2, 0, 0⟩ 3 (by decide)
  rw [show svcB c211 m3 ⟨2, 0, 0⟩ 3 = false by decide] at g_s3
  have g_p := pos_ok c211 m3 c211_lt
  rw [show posP c211 m3 = ⟨2, 1, 0⟩ by rfl] at g_p
  have g_m1 := may_ok c211 m3 1
  rw [show mayB c211 m3 1 = true by decide] at g_m1
  have g_m0 := may_ok c211 m3 0
  rw [show mayB c211 m3 0 = false by decide] at g_m0
  have g_s9 := svc_ok c222 m3 ⟨1, 0, 0⟩ 3 (by decide)
  rw [show svcB c222 m3 ⟨1, 0, 0⟩ 3 = true by decide] at g_s9
  have kP := eqlPl ⟨2, 1, 0⟩ ⟨2, 1, 0⟩ true rfl
  obtain ⟨b0, b1, b2, hB⟩ := three_blk (T0 := 25) (T1 := 24) (T2 := 27) (C0 := mbc m3) (C1 := mbc c211) (C2 := (Pl.mk 2 0 0).arr) (w := w) rfl
  go_enter Try.func10, Try.ntmps10
  go_upto_region 4 with (first | refine alloc_zero zeroMb rfl rfl ?_ | refine alloc_zero zeroCt rfl rfl ?_ | refine alloc_zero zeroPl rfl rfl ?_ | refine build_as rfl 25 #[(0, .const (.int .u32 1)), (1, .const (.int .u32 1)), (2, .const (.int .u32 1))] rfl (C := mbc m3) (by kernel_rfl) ?_ | refine build_as rfl 24 #[(0, .const (.int .u32 2)), (1, .const (.int .u32 1)), (2, .const (.int .u32 1))] rfl (C := mbc c211) (by kernel_rfl) ?_ | refine build_as rfl 27 #[(0, .const (.int .u32 2))] rfl (C := (Pl.mk 2 0 0).arr) (by kernel_rfl) ?_ | refine store_new rfl 25 _ _ rfl (cells := mbc m3) rfl rfl sizeMb rfl (mbc_one _) ?_ | refine store_new rfl 24 _ _ rfl (cells := mbc c211) rfl rfl sizeCt rfl (mbc_one _) ?_ | refine store_new rfl 27 _ _ rfl (cells := (Pl.mk 2 0 0).arr) rfl rfl sizePl rfl (Pl.arr_one _) ?_)
  try simp only [Act.put, List.setIfInBounds_toArray, List.set_cons_zero, List.set_cons_succ]
  simp only [alloc_size]
  generalize ((w.alloc (Obj.cells (mbc m3) 25)).alloc (Obj.cells (mbc c211) 24)).alloc (Obj.cells (Pl.mk 2 0 0).arr 27) = W at b0 b1 b2 hB ⊢
  go_wp2_with (first | refine load_blk rfl 24 _ rfl b1 rfl Try.underlying24 rfl sizeCt ?_ | refine load_blk rfl 25 _ rfl b0 rfl Try.underlying25 rfl sizeMb ?_ | refine load_blk rfl 27 _ rfl b2 rfl Try.underlying27 rfl sizePl ?_)
  refine (g_l _).mono ?_
  rintro r w1 ⟨rfl, hb⟩
  replace b0 := b0.below hb
  replace b1 := b1.below hb
  replace b2 := b2.below hb
  replace hB := hB.trans (hb.mono hB.size)
  clear hb
  go_wp2_with (first | refine load_want rfl 24 _ rfl b1 rfl Try.underlying24 rfl sizeCt ?_ | refine load_want rfl 25 _ rfl b0 rfl Try.underlying25 rfl sizeMb ?_ | refine load_want rfl 27 _ rfl b2 rfl Try.underlying27 rfl sizePl ?_)
  refine (g_s0 _).mono ?_
  rintro r w2 ⟨rfl, hb⟩
  replace b0 := b0.below hb
  replace b1 := b1.below hb
  replace b2 := b2.below hb
  replace hB := hB.trans (hb.mono hB.size)
  clear hb
  go_wp2_with (first | refine load_want rfl 24 _ rfl b1 rfl Try.underlying24 rfl sizeCt ?_ | refine load_want rfl 25 _ rfl b0 rfl Try.underlying25 rfl sizeMb ?_ | refine load_want rfl 27 _ rfl b2 rfl Try.underlying27 rfl sizePl ?_)
  refine (g_s1 _).mono ?_
  rintro r w3 ⟨rfl, hb⟩
  replace b0 := b0.below hb
  replace b1 := b1.below hb
  replace b2 := b2.below hb
  replace hB := hB.trans (hb.mono hB.size)
  clear hb
  go_wp2_with (first | refine load_want rfl 24 _ rfl b1 rfl Try.underlying24 rfl sizeCt ?_ | refine load_want rfl 25 _ rfl b0 rfl Try.underlying25 rfl sizeMb ?_ | refine load_want rfl 27 _ rfl b2 rfl Try.underlying27 rfl sizePl ?_)
  refine (g_s2 _).mono ?_
  rintro r w4 ⟨rfl, hb⟩
  replace b0 := b0.below hb
  replace b1 := b1.below hb
  replace b2 := b2.below hb
  replace hB := hB.trans (hb.mono hB.size)
  clear hb
  go_wp2_with (first | refine load_want rfl 24 _ rfl b1 rfl Try.underlying24 rfl sizeCt ?_ | refine load_want rfl 25 _ rfl b0 rfl Try.underlying25 rfl sizeMb ?_ | refine load_want rfl 27 _ rfl b2 rfl Try.underlying27 rfl sizePl ?_)
  refine (g_s3 _).mono ?_
  rintro r w5 ⟨rfl, hb⟩
  replace b0 := b0.below hb
  replace b1 := b1.below hb
  replace b2 := b2.below hb
  replace hB := hB.trans (hb.mono hB.size)
  clear hb
  go_wp2_with (first | refine load_want rfl 24 _ rfl b1 rfl Try.underlying24 rfl sizeCt ?_ | refine load_want rfl 25 _ rfl b0 rfl Try.underlying25 rfl sizeMb ?_ | refine load_want rfl 27 _ rfl b2 rfl Try.underlying27 rfl sizePl ?_)
  refine (g_p _).mono ?_
  rintro r w6 ⟨rfl, hb⟩
  replace b0 := b0.below hb
  replace b1 := b1.below hb
  replace b2 := b2.below hb
  replace hB := hB.trans (hb.mono hB.size)
  clear hb
  go_wp2_with (first | refine load_want rfl 24 _ rfl b1 rfl Try.underlying24 rfl sizeCt ?_ | refine load_want rfl 25 _ rfl b0 rfl Try.underlying25 rfl sizeMb ?_ | refine load_want rfl 27 _ rfl b2 rfl Try.underlying27 rfl sizePl ?_ | refine build_want rfl 27 #[(0, .const (.int .u32 2)), (1, .const (.int .i64 1))] rfl (C := (Pl.mk 2 1 0).arr) (by kernel_rfl) ?_)
  refine (g_m1 _).mono ?_
  rintro r w7 ⟨rfl, hb⟩
  replace b0 := b0.below hb
  replace b1 := b1.below hb
  replace b2 := b2.below hb
  replace hB := hB.trans (hb.mono hB.size)
  clear hb
  go_wp2_with (first | refine load_want rfl 24 _ rfl b1 rfl Try.underlying24 rfl sizeCt ?_ | refine load_want rfl 25 _ rfl b0 rfl Try.underlying25 rfl sizeMb ?_ | refine load_want rfl 27 _ rfl b2 rfl Try.underlying27 rfl sizePl ?_)
  refine (g_m0 _).mono ?_
  rintro r w8 ⟨rfl, hb⟩
  replace b0 := b0.below hb
  replace b1 := b1.below hb
  replace b2 := b2.below hb
  replace hB := hB.trans (hb.mono hB.size)
  clear hb
  go_wp2_with (first | refine load_want rfl 24 _ rfl b1 rfl Try.underlying24 rfl sizeCt ?_ | refine load_want rfl 25 _ rfl b0 rfl Try.underlying25 rfl sizeMb ?_ | refine load_want rfl 27 _ rfl b2 rfl Try.underlying27 rfl sizePl ?_ | refine build_want rfl 24 #[(0, .const (.int .u32 2)), (1, .const (.int .u32 2)), (2, .const (.int .u32 2))] rfl (C := mbc c222) (by kernel_rfl) ?_ | refine build_want rfl 27 #[(0, .const (.int .u32 1))] rfl (C := (Pl.mk 1 0 0).arr) (by kernel_rfl) ?_)
  refine (g_s9 _).mono ?_
  rintro r w9 ⟨rfl, hb⟩
  replace b0 := b0.below hb
  replace b1 := b1.below hb
  replace b2 := b2.below hb
  replace hB := hB.trans (hb.mono hB.size)
  clear hb
  go_wp2_with fail
  go_ret
  exact ⟨rfl, hB⟩

end Go.Proofs.Ytchkpgncelbhpaa
