/-
  A writer of packets, which holds a strings.Builder as its only field: what copyCheck, WriteString and String return of it.
  Condition: at most 140737488355328 bytes in all.
-/
import Derived.Test.YtmbddjejbmjmfaaFrBld
import Derived.Lib.OthersKept
namespace Go.Proofs.Ytmbddjejbmjmfaa
set_option maxRecDepth 10000
open Go.RowKit

theorem writer_lies : liesAt Try.prog Try.prog.depth 71 (2 / Try.prog.cellsOf 71) 0 69 1 = true := by kernel_rfl

abbrev Wr (b : Nat) (l : List UInt8) (w : World) : Prop := Lib.IsBuilderF 71 5 b b (Lib.byteCells l) w

theorem wr_new (w : World) : Wr w.heap.size [] (w.alloc (.cells #[.pointer none, .slice none 0 0] 71)) :=
  .of (Lib.fresh_isBuilder 71 5 w)

set_option maxHeartbeats 1000000 in
theorem wcheck_ok (b : Nat) (bs : List Value) (w : World) (h : Lib.IsBuilderF 71 5 b b bs w) :
    Calls Try.prog 68 #[.pointer (some ⟨b, 0, none⟩)] w fun e w' =>
      e = .returned (.tuple #[]) ∧ Lib.BuilderAtF 71 5 b b (.pointer (some ⟨b, 0, none⟩)) bs w' ∧ Below b w w' ∧ Lib.OthersKept 5 (some b) w w' := by
  obtain ⟨j, hj, hjs⟩ := builder_info
  rcases h with h | h
  all_goals have c0 := h.cell0
  · have hto := Lib.run_to_unsafe (P := Try.prog) w ⟨b, 0, none⟩ Try.underlying67 Try.underlying117 hj (by rw [hjs]; decide) h.shape Nat.two_pos
    have hno : (callFunc 75 #[.pointer (some ⟨b, 0, none⟩)]).run Try.prog w = .ok (.value (.pointer (some ⟨b, 0, none⟩))) w := by
      rw [run_callFunc_extern Try.func75 (by kernel_rfl) (by kernel_rfl) (by kernel_rfl) (e := Extern.AbiNoEscape.same) (by kernel_rfl), Lib.run_noEscape]
      rfl
    have hfrom := Lib.run_from_unsafe (P := Try.prog) w ⟨b, 0, none⟩ Try.underlying117 Try.underlying67 hj h.shape writer_lies
    have fz := h.frozen0
    have fin := h.used (.pointer (some ⟨b, 0, none⟩))
    have hbb := h.1
    clear h
    go_enter Try.func68, Try.ntmps68
    go_wp2
    go_end0
    exact ⟨rfl, fin, (Below.refl b w).setCell hbb _, (Lib.OthersKept.refl _ _ w).setCell ⟨b, 0, none⟩ rfl _⟩
  · have hsame := Lib.run_neq_ptr_same (P := Try.prog) w ⟨b, 0, none⟩ Try.underlying67 hj
    go_enter Try.func68, Try.ntmps68
    go_wp2
    go_end0
    exact ⟨rfl, h, .refl b w, .refl _ _ w⟩

set_option maxHeartbeats 2000000 in
theorem wwrite_ok (b : Nat) (l : List UInt8) (s : ByteArray) (w : World) (h : Wr b l w) (hlen : l.length + s.size ≤ 140737488355328) :
    Calls Try.prog 58 #[.pointer (some ⟨b, 0, none⟩), .string s] w fun e w' =>
      e = .returned (.tuple #[.int .i64 s.size, .nilIface]) ∧ Wr b (l ++ s.data.toList) w' ∧ Below b w w' ∧ Lib.OthersKept 5 (some b) w w' := by
  obtain ⟨i0, hi, hz0, hz1, hz2⟩ := info_parts byte_info
  have hl : (Lib.byteCells l).length = l.length := by simp [Lib.byteCells]
  have hcat : Lib.byteCells (l ++ s.data.toList) = Lib.byteCells l ++ Lib.strCells s := by simp [Lib.byteCells, Lib.strCells]
  unfold Wr
  rw [hcat]
  clear hcat
  go_enter Try.func58, Try.ntmps58
  go_wp2_with fail
  refine (wcheck_ok b _ _ h).mono ?_
  rintro e w1 ⟨rfl, ⟨hbb, v, hblk, own1, apart⟩, below1, kept1⟩
  have grew := below1.size
  have cell1 := (Lib.cell_of_heap hblk 1).trans (rfl : _ = some v)
  have lies : b < w1.heap.size := block_lt_of_cell cell1
  clear h
  go_wp2_with (at_builtin; refine Lib.wpList_append_own_stringF _ rfl _ _ 66 9 rfl b 5 i0 Try.underlying66 Try.underlying9 hi hz0 hz1 hz2 _ _ _ rfl own1 s rfl ?_ ?_ ?_ ?_)
  · unfold maxLen; omega
  · omega
  · omega
  intro v' w2 own2 grown _
  have blk2 := (grown.block b lies (Ne.symm apart)).trans hblk
  have cell2 := (Lib.cell_of_heap blk2 1).trans (rfl : _ = some v)
  have free2 := Lib.frozen_of_heap blk2 1
  have isSlice : ∃ a n c, v' = .slice a n c := by
    rcases own2.2 with ⟨hv, _⟩ | ⟨_, _, _, _, hv, _⟩ <;> exact ⟨_, _, _, hv⟩
  obtain ⟨a, n, c, rfl⟩ := isSlice
  go_wp2
  go_ret2
  refine ⟨rfl, .inr ?_, ?_, (kept1.grown grown (Lib.ownsRowF_kind own1)).setCell ⟨b, 1, none⟩ rfl _⟩
  · exact Lib.BuilderAtF.put hbb blk2 (bs' := Lib.byteCells l ++ Lib.strCells s) (by simpa [Lib.strCells_length, hl] using own2) (by decide)
  · exact (below1.grown grown (by omega) (fun k hk => (own1.lt k hk).1)).setCell hbb _

theorem Wr.at {b : Nat} {l : List UInt8} {w : World} (h : Wr b l w) : ∃ p, Lib.BuilderAtF 71 5 b b p (Lib.byteCells l) w := by
  rcases h with h | h
  · exact ⟨_, h⟩
  · exact ⟨_, h⟩
theorem Wr.lt {b : Nat} {l : List UInt8} {w : World} (h : Wr b l w) : b < w.heap.size := by
  obtain ⟨p, hp⟩ := h.at
  exact hp.lt

set_option maxHeartbeats 1000000 in
theorem wstring_ok (b : Nat) (l : List UInt8) (w : World) (h : Wr b l w) (h0 : l ≠ []) :
    Calls Try.prog 41 #[.pointer (some ⟨b, 0, none⟩)] w fun e w' => e = .returned (.string ⟨l.toArray⟩) ∧ Below b w w' := by
  obtain ⟨p, hB, v, hbk, hown, hne⟩ := h.at
  have hcell1 : Try.prog.cellsOf 5 = 1 := by kernel_rfl
  have hl0 : l.length ≠ 0 := by simpa using h0
  rw [Lib.byteCells_length] at hown
  obtain ⟨g, cap, cur, fz, rfl, hbg, hg, hfz, hnc, hcm, hcs, htake⟩ : ∃ g cap cur fz, v = .slice (some ⟨g, 0, none⟩) l.length cap ∧ b ≤ g ∧ w.heap[g]? = some (.cells cur 5 fz) ∧ fz.2 ≤ l.length * 1 ∧ l.length ≤ cap ∧ cap ≤ maxLen ∧ cur.size = cap * 1 ∧ cur.toList.take (l.length * 1) = Lib.byteCells l := by
    rcases hown.2 with ⟨_, hz⟩ | ⟨g, cap, cur, fz, hv, r⟩
    · exact absurd hz hl0
    · exact ⟨g, cap, cur, fz, hv, r⟩
  have c1 : w.drew.cell? ⟨b, 1, none⟩ = some (.slice (some ⟨g, 0, none⟩) l.length cap) := by
    have : w.drew.heap[b]? = _ := hbk
    rw [Lib.cell_of_heap this]; rfl
  have hSD : (Builtin.unsafeSliceData_ #[66] 102 #[.slice (some ⟨g, 0, none⟩) l.length cap]).run Try.prog w.drew = .ok (.pointer (some ⟨g, 0, none⟩)) w.drew :=
    Lib.run_unsafeSliceData_row _ _ _ _ _ _ (by omega)
  have hUS : (Builtin.unsafeString_ #[102, 3] 9 #[.pointer (some ⟨g, 0, none⟩), .int .i64 l.length]).run Try.prog w.drew = .ok (.string ⟨l.toArray⟩) (w.drew.freeze ⟨g, 0, none⟩ l.length) := by
    refine Lib.run_unsafeString_row w.drew 102 3 9 5 Try.underlying102 hcell1 g cur.size (by have hg' : w.drew.heap[g]? = some (.cells cur 5 fz) := hg; simp [World.shape?, hg']) l h0 (by omega) (by unfold maxLen at hcm; omega) ?_
    intro j x hx
    exact hown.cells (g := g) rfl j (.int .u8 x.toNat) (by simp [Lib.byteCells, hx])
  have c0 : w.cell? ⟨b, 1, none⟩ = some (.slice (some ⟨g, 0, none⟩) l.length cap) := c1
  have fin : Below b w (w.drew.freeze ⟨g, 0, none⟩ l.length) := Lib.below_freeze (Below.refl b w).drew (p := ⟨g, 0, none⟩) hbg _
  clear hown htake hcs hfz hg hbk
  go_enter Try.func41, Try.ntmps41
  go_wp2
  go_region
  all_goals (go_wp2; go_ret; exact ⟨rfl, fin⟩)

end Go.Proofs.Ytmbddjejbmjmfaa
