/-
  The calls whose answers the document fixes: they come out as it says.
  No condition.
-/
import Derived.Test.YtodemfkjieonoaaCtE
namespace Go.Proofs.Ytodemfkjieonoaa
set_option maxRecDepth 10000
open Go.RowKit Go.Sort
set_option linter.unusedVariables false

def tw (a b : Nat) : Nat → Nat := fun i => if i = 0 then a else if i = 1 then b else 0
theorem tw_lt (a b : Nat) (ha : a < 4294967296) (hb : b < 4294967296) (i : Nat) : tw a b i < 4294967296 := by unfold tw; split <;> (try split) <;> omega
theorem bsCt2 (x y : Nat → Nat) (w : World) : (Instr.buildSlice 22 2 #[(0, .agg (mbc x)), (1, .agg (mbc y))]).run Try.prog w = .ok (.slice (some ⟨w.heap.size, 0, none⟩) 2 2) (w.alloc (.cells (flat row8 [x, y]).toArray 25)) := by kernel_rfl
theorem bsPl2 (x y : Pl) (w : World) : (Instr.buildSlice 36 2 #[(0, .agg x.arr), (1, .agg y.arr)]).run Try.prog w = .ok (.slice (some ⟨w.heap.size, 0, none⟩) 2 2) (w.alloc (.cells (flat Pl.vals [x, y]).toArray 28)) := by kernel_rfl
theorem box_ct2 {ops : Array Oper} {rest : List Oper} {op : Oper} {a : Act} {w : World} {Q : Exit → Act → World → Prop} (hgd : op.guard = none) (u v : Operand) (ho : op.op = .buildSlice 22 2 #[(0, u), (1, v)]) (x y : Nat → Nat) (hx : a.eval u = .agg (mbc x)) (hy : a.eval v = .agg (mbc y))
    (h : wpList Try.prog ops Q rest (a.put op.dst (.slice (some ⟨w.heap.size, 0, none⟩) 2 2)) (w.alloc (.cells (flat row8 [x, y]).toArray 25))) : wpList Try.prog ops Q (op :: rest) a w :=
  wpList_plain hgd fun _ hK => by
    have hk := hK _ _ h
    unfold Oper.wp execOp
    simp only [ho, List.map_toArray, List.map_cons, List.map_nil, hx, hy, Sem.run_bind, Sem.run_pure, bsCt2, Result.andThen_ok]
    exact hk
theorem box_pl2 {ops : Array Oper} {rest : List Oper} {op : Oper} {a : Act} {w : World} {Q : Exit → Act → World → Prop} (hw : Region.wanted op (yielded ops a.tmps) = true) (u v : Operand) (ho : op.op = .buildSlice 36 2 #[(0, u), (1, v)]) (x y : Pl) (hx : a.eval u = .agg x.arr) (hy : a.eval v = .agg y.arr)
    (h : wpList Try.prog ops Q rest (a.put op.dst (.slice (some ⟨w.heap.size, 0, none⟩) 2 2)) (w.alloc (.cells (flat Pl.vals [x, y]).toArray 28))) : wpList Try.prog ops Q (op :: rest) a w :=
  wpList_step fun _ hK => by
    have hk := hK _ _ h
    rw [if_pos hw]
    unfold Oper.wp execOp
    simp only [ho, List.map_toArray, List.map_cons, List.map_nil, hx, hy, Sem.run_bind, Sem.run_pure, bsPl2, Result.andThen_ok]
    exact hk

set_option maxHeartbeats 4000000 in
theorem fixed_ok (w : World) : Calls Try.prog 8 #[] w fun e w' => e = .returned (.bool true) ∧ Below w.heap.size w w' := by
  have pM := missing_ok (tw 1 2) (tw 2 3) (tw 1 1) (tw_lt 2 3 (by decide) (by decide))
  have pR := rest_ok Pl.zero (by decide) (tw 1 1) (tw 1 1) (tw_lt 1 1 (by decide) (by decide))
  unfold Placed at pM pR
  obtain ⟨L, HL⟩ : ∃ L, Hid (L = [Pl.mk 2 0 0, Pl.mk 3 1 0]) := ⟨_, rfl⟩
  rw [show missL (tw 2 3) (tw 1 1) 100 (tw 1 2) = L from (by kernel_rfl : missL (tw 2 3) (tw 1 1) 100 (tw 1 2) = [Pl.mk 2 0 0, Pl.mk 3 1 0]).trans HL.out.symm] at pM
  have hl2 : L.length = 2 := by rw [HL.out]; rfl
  have hl3 : (missL (tw 1 1) (tw 1 1) 100 (aheadC Pl.zero)).length = 2 := by kernel_rfl
  have pP := fun la lb lc ld u hA hC => places_ok L la lb lc ld (by omega) u hA hC
  rw [hl2] at pM pP
  rw [hl3] at pR
  clear hl2 hl3
  have pU := fun la u hA => union_ok [tw 1 3, tw 2 2] la 2 (by decide) u hA
  rw [show [tw 1 3, tw 2 2].length = 2 from rfl] at pU
  have pE := fun u => union_ok [] none 0 (by decide) u (Li.nil _ _ _)
  rw [show ([] : List (Nat → Nat)).length = 0 from rfl] at pE
  have k1 := eqlCt (unionL [tw 1 3, tw 2 2]) (tw 2 3) true (by kernel_rfl)
  have k2 := eqlCt (unionL []) noMb true (by kernel_rfl)
  have pW1 := within_ok (tw 1 0) (tw 1 0)
  have pW2 := within_ok (tw 2 0) (tw 1 0)
  rw [show withB (tw 1 0) (tw 1 0) = true from by decide] at pW1
  rw [show withB (tw 2 0) (tw 1 0) = false from by decide] at pW2
  have a1 := blk_new w (mbc (tw 1 1)) 26
  have hB : Below w.heap.size w (w.alloc (.cells (mbc (tw 1 1)) 26)) := below_box w _
  go_enter Try.func8, Try.ntmps8
  go_upto_region 2 with (first | refine alloc_zero zeroMb rfl rfl ?_ | refine build_as rfl 26 #[(0, .const (.int .u32 1)), (1, .const (.int .u32 1))] rfl (C := mbc (tw 1 1)) (by kernel_rfl) ?_ | refine store_new rfl 26 _ _ rfl (cells := mbc (tw 1 1)) rfl rfl sizeMb rfl (mbc_one _) ?_)
  try simp only [Act.put, List.setIfInBounds_toArray, List.set_cons_zero, List.set_cons_succ]
  generalize w.alloc (Obj.cells (mbc (tw 1 1)) 26) = W at a1 hB ⊢
  go_wp2_with (first | refine build_as rfl 25 #[(0, .const (.int .u32 1)), (1, .const (.int .u32 2))] rfl (C := mbc (tw 1 2)) (by kernel_rfl) ?_ | refine build_as rfl 25 #[(0, .const (.int .u32 2)), (1, .const (.int .u32 3))] rfl (C := mbc (tw 2 3)) (by kernel_rfl) ?_ | refine load_blk rfl 26 _ rfl a1 rfl Try.underlying26 rfl sizeMb ?_)
  refine (pM _).mono ?_
  rintro r w1 ⟨⟨la, lc, rfl, lcap, lS⟩, hb⟩
  replace lS := lS.mono (Nat.zero_le _)
  replace a1 := a1.below hb
  replace hB := hB.trans (hb.mono hB.size)
  clear hb
  have hb := below_box w1 (.cells (flat row8 [tw 1 3, tw 2 2]).toArray 25)
  have lU : Li row8 0 (some ⟨w1.heap.size, 0, none⟩) [tw 1 3, tw 2 2] (w1.alloc (.cells (flat row8 [tw 1 3, tw 2 2]).toArray 25)) := li_whole (blk_new w1 _ 25) (Nat.zero_le _)
  replace a1 := a1.below hb
  replace lS := lS.below hb
  replace hB := hB.trans (hb.mono hB.size)
  clear hb
  go_wp2_with (first | refine build_as rfl 25 #[(0, .const (.int .u32 1)), (1, .const (.int .u32 3))] rfl (C := mbc (tw 1 3)) (by kernel_rfl) ?_ | refine build_as rfl 25 #[(0, .const (.int .u32 2)), (1, .const (.int .u32 2))] rfl (C := mbc (tw 2 2)) (by kernel_rfl) ?_ | refine box_ct2 rfl _ _ rfl (tw 1 3) (tw 2 2) rfl rfl ?_)
  refine (pU _ _ lU).mono ?_
  rintro r w2 ⟨rfl, hb⟩
  clear lU
  replace a1 := a1.below hb
  replace lS := lS.below hb
  replace hB := hB.trans (hb.mono hB.size)
  clear hb
  go_wp2_with (first | refine build_as rfl 25 #[(0, .const (.int .u32 2)), (1, .const (.int .u32 3))] rfl (C := mbc (tw 2 3)) (by kernel_rfl) ?_)
  refine (pE _).mono ?_
  rintro r w3 ⟨rfl, hb⟩
  replace a1 := a1.below hb
  replace lS := lS.below hb
  replace hB := hB.trans (hb.mono hB.size)
  clear hb
  have hb := below_box w3 (.cells (flat Pl.vals [⟨2, 0, 0⟩, ⟨3, 1, 0⟩]).toArray 28)
  have lV : Li Pl.vals 0 (some ⟨w3.heap.size, 0, none⟩) L (w3.alloc (.cells (flat Pl.vals [⟨2, 0, 0⟩, ⟨3, 1, 0⟩]).toArray 28)) := by rw [HL.out]; exact li_whole (blk_new w3 _ 28) (Nat.zero_le _)
  replace a1 := a1.below hb
  replace lS := lS.below hb
  replace hB := hB.trans (hb.mono hB.size)
  clear hb
  go_wp2_with (first | refine build_want rfl 25 #[] rfl (C := mbc noMb) (by kernel_rfl) ?_ | refine build_want rfl 28 #[(0, .const (.int .u32 2))] rfl (C := (Pl.mk 2 0 0).arr) (by kernel_rfl) ?_ | refine build_want rfl 28 #[(0, .const (.int .u32 3)), (1, .const (.int .i64 1))] rfl (C := (Pl.mk 3 1 0).arr) (by kernel_rfl) ?_ | refine box_pl2 rfl _ _ rfl ⟨2, 0, 0⟩ ⟨3, 1, 0⟩ rfl rfl ?_)
  refine (pP _ _ _ _ _ lS lV).mono ?_
  rintro r w4 ⟨rfl, hb⟩
  clear lS lV
  replace a1 := a1.below hb
  replace hB := hB.trans (hb.mono hB.size)
  clear hb
  go_wp2_with (first | refine build_want rfl 25 #[(0, .const (.int .u32 1))] rfl (C := mbc (tw 1 0)) (by kernel_rfl) ?_)
  refine (pW1 _).mono ?_
  rintro r w5 ⟨rfl, hb⟩
  replace a1 := a1.below hb
  replace hB := hB.trans (hb.mono hB.size)
  clear hb
  go_wp2_with (first | refine build_want rfl 25 #[(0, .const (.int .u32 2))] rfl (C := mbc (tw 2 0)) (by kernel_rfl) ?_ | refine build_want rfl 25 #[(0, .const (.int .u32 1))] rfl (C := mbc (tw 1 0)) (by kernel_rfl) ?_)
  refine (pW2 _).mono ?_
  rintro r w6 ⟨rfl, hb⟩
  replace a1 := a1.below hb
  replace hB := hB.trans (hb.mono hB.size)
  clear hb
  go_wp2_with (first | refine build_want rfl 28 #[] rfl (C := Pl.zero.arr) (by kernel_rfl) ?_ | refine build_want rfl 25 #[(0, .const (.int .u32 1)), (1, .const (.int .u32 1))] rfl (C := mbc (tw 1 1)) (by kernel_rfl) ?_ | refine load_want rfl 26 _ rfl a1 rfl Try.underlying26 rfl sizeMb ?_)
  refine (pR _).mono ?_
  rintro r w7 ⟨⟨ra, rc, rfl, rcap, rS⟩, hb⟩
  clear rS rcap
  replace hB := hB.trans (hb.mono hB.size)
  clear hb
  clear a1
  go_wp2_with fail
  go_ret
  exact ⟨rfl, hB⟩

end Go.Proofs.Ytodemfkjieonoaa
