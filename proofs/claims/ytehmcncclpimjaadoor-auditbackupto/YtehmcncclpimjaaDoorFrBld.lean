/-
  A strings.Builder that is written: what copyCheck and WriteString return, and what the builder holds behind them.
  Condition: at most 140737488355328 bytes in all.
-/
import Derived.Test.YtehmcncclpimjaaDoorProg
import Derived.Shelf.Strings.BuilderK
import Derived.WalkKit
import Derived.OwnWalk
import Derived.KernelRfl
namespace Go.Proofs.YtehmcncclpimjaaDoor
set_option maxRecDepth 10000
open Go.RowKit

theorem builder_info : ∃ j, Tryd.prog.info? 58 = some j ∧ j.size = 2 := Option.map_eq_some_iff.1 (by kernel_rfl)
theorem builder_lies : liesAt Tryd.prog Tryd.prog.depth 58 (2 / Tryd.prog.cellsOf 58) 0 58 1 = true := by kernel_rfl
theorem byte_info : (Tryd.prog.info? 5).map (fun i => (i.zero, i.size, i.bytes)) = some (some (.int .u8 0), 1, 1) := by kernel_rfl

abbrev Bld (b : Nat) (l : List UInt8) (w : World) : Prop := Lib.IsBuilderF 58 5 b b (Lib.byteCells l) w

theorem bld_new (w : World) : Bld w.heap.size [] (w.alloc (.cells #[.pointer none, .slice none 0 0] 58)) :=
  .of (Lib.fresh_isBuilder 58 5 w)

set_option maxHeartbeats 1000000 in
theorem check_ok (b : Nat) (bs : List Value) (w : World) (h : Lib.IsBuilderF 58 5 b b bs w) :
    Calls Tryd.prog 61 #[.pointer (some ⟨b, 0, none⟩)] w fun e w' =>
      e = .returned (.tuple #[]) ∧ Lib.BuilderAtF 58 5 b b (.pointer (some ⟨b, 0, none⟩)) bs w' ∧ Below b w w' ∧ Lib.OthersKept 5 (some b) w w' := by
  obtain ⟨j, hj, hjs⟩ := builder_info
  rcases h with h | h
  all_goals have c0 := h.cell0
  · have hto := Lib.run_to_unsafe (P := Tryd.prog) w ⟨b, 0, none⟩ Tryd.underlying55 Tryd.underlying97 hj (by rw [hjs]; decide) h.shape Nat.two_pos
    have hno : (callFunc 79 #[.pointer (some ⟨b, 0, none⟩)]).run Tryd.prog w = .ok (.value (.pointer (some ⟨b, 0, none⟩))) w := by
      rw [run_callFunc_extern Tryd.func79 (by kernel_rfl) (by kernel_rfl) (by kernel_rfl) (e := Extern.AbiNoEscape.same) (by kernel_rfl), Lib.run_noEscape]
      rfl
    have hfrom := Lib.run_from_unsafe (P := Tryd.prog) w ⟨b, 0, none⟩ Tryd.underlying97 Tryd.underlying55 hj h.shape builder_lies
    have fz := h.frozen0
    have fin := h.used (.pointer (some ⟨b, 0, none⟩))
    have hbb := h.1
    clear h
    go_enter Tryd.func61, Tryd.ntmps61
    go_wp2
    go_end0
    exact ⟨rfl, fin, (Below.refl b w).setCell hbb _, (Lib.OthersKept.refl _ _ w).setCell ⟨b, 0, none⟩ rfl _⟩
  · have hsame := Lib.run_neq_ptr_same (P := Tryd.prog) w ⟨b, 0, none⟩ Tryd.underlying55 hj
    go_enter Tryd.func61, Tryd.ntmps61
    go_wp2
    go_end0
    exact ⟨rfl, h, .refl b w, .refl _ _ w⟩

set_option maxHeartbeats 2000000 in
theorem write_ok (b : Nat) (l : List UInt8) (s : ByteArray) (w : World) (h : Bld b l w) (hlen : l.length + s.size ≤ 140737488355328) :
    Calls Tryd.prog 46 #[.pointer (some ⟨b, 0, none⟩), .string s] w fun e w' =>
      e = .returned (.tuple #[.int .i64 s.size, .nilIface]) ∧ Bld b (l ++ s.data.toList) w' ∧ Below b w w' ∧ Lib.OthersKept 5 (some b) w w' := by
  obtain ⟨i0, hi, hz0, hz1, hz2⟩ := info_parts byte_info
  have hl : (Lib.byteCells l).length = l.length := by simp [Lib.byteCells]
  have hcat : Lib.byteCells (l ++ s.data.toList) = Lib.byteCells l ++ Lib.strCells s := by simp [Lib.byteCells, Lib.strCells]
  unfold Bld
  rw [hcat]
  clear hcat
  go_enter Tryd.func46, Tryd.ntmps46
  go_wp2_with fail
  refine (check_ok b _ _ h).mono ?_
  rintro e w1 ⟨rfl, ⟨hbb, v, hblk, own1, apart⟩, below1, kept1⟩
  have grew := below1.size
  have cell1 := (Lib.cell_of_heap hblk 1).trans (rfl : _ = some v)
  have lies : b < w1.heap.size := block_lt_of_cell cell1
  clear h
  go_wp2_with (at_builtin; refine Lib.wpList_append_own_stringF _ rfl _ _ 56 9 rfl b 5 i0 Tryd.underlying56 Tryd.underlying9 hi hz0 hz1 hz2 _ _ _ rfl own1 s rfl ?_ ?_ ?_ ?_)
  · unfold maxLen; omega
  · omega
  · omega
  intro v' w2 own2 grown _
  have blk2 := (grown.block b lies (Ne.symm apart)).trans hblk
  have cell2 := (Lib.cell_of_heap blk2 1).trans (rfl : _ = some v)
  have free2 := Lib.frozen_of_heap blk2 1
  have isSlice : ∃ a n c, v' = .slice a n c := by
    rcases own2.2 with ⟨hv, _⟩ | ⟨_, _, _, _, hv, _⟩ <;> exact ⟨_, _, _, hv⟩
  obtain ⟨a, n, c, rfl⟩ := isSlice
  go_wp2
  go_ret2
  refine ⟨rfl, .inr ?_, ?_, (kept1.grown grown (Lib.ownsRowF_kind own1)).setCell ⟨b, 1, none⟩ rfl _⟩
  · exact Lib.BuilderAtF.put hbb blk2 (bs' := Lib.byteCells l ++ Lib.strCells s) (by simpa [Lib.strCells_length, hl] using own2) (by decide)
  · exact (below1.grown grown (by omega) (fun k hk => (own1.lt k hk).1)).setCell hbb _

end Go.Proofs.YtehmcncclpimjaaDoor
