/-
  The calls whose answers the document fixes answer so: fixed returns true. Of the memory that was there nothing turns.
  No condition.
-/
import Derived.Test.YtdpghocgljnobaaFrEq
import Derived.Test.YtdpghocgljnobaaFrEnc
import Derived.Test.YtdpghocgljnobaaFrDec
import Derived.Test.YtdpghocgljnobaaFrLa
namespace Go.Proofs.Ytdpghocgljnobaa
open Go.RowKit Go.Sort

def hi : En := ⟨1, 0, 1, 3, 4, ⟨#[104, 105]⟩⟩

theorem some_ok (w : World) : Calls Try.prog 26 #[] w fun r w' => r = .returned (.agg #[.int .i64 1, .int .i64 0, .int .i64 1, .int .u64 3, .int .u64 4, .string ⟨#[104, 105]⟩]) ∧ Below w.heap.size w w' := by
  go_enter Try.func26, Try.ntmps26
  go_wp2_with fail
  refine bodyPost_ret (v := .agg #[.int .i64 1, .int .i64 0, .int .i64 1, .int .u64 3, .int .u64 4, .string ⟨#[104, 105]⟩]) (by simp [results, Try.results26, go_sem]) rfl ⟨rfl, below_box _ _⟩

set_option maxHeartbeats 2000000 in
theorem lane_none (F : Nat → En) (t : Nat) (ht : t < 3) (h0 : F (2 * t) = En.zero) (h1 : F (2 * t + 1) = En.zero) (w : World) : Calls Try.prog 16 #[.agg (frc F), .int .i64 (t : Int)] w fun r w' =>
    r = .returned (.slice none 0 0) ∧ Below w.heap.size w w' := by
  have n0 : (0 : Int) ≤ (t : Int) := by omega
  have n3 : (t : Int) < 3 := by omega
  have hten := fun w => isTenant_any (t : Int) w
  rw [decide_eq_true ⟨n0, n3⟩] at hten
  have hB := blk_new w (frc F) 27
  have hb0 := below_box w (.cells (frc F) 27)
  have hpart : ((frc F).extract (t * 12) (t * 12 + (enCells [F (2 * t), F (2 * t + 1)]).length)).toList = enCells [F (2 * t), F (2 * t + 1)] := by
    obtain rfl | rfl | rfl : t = 0 ∨ t = 1 ∨ t = 2 := by omega
    all_goals kernel_rfl
  rw [h0, h1] at hpart
  have hsl : (enCells [En.zero, En.zero]).length = 12 := by rw [enCells_length]; rfl
  have kne := neq_ent 0 0 0 0 0 ⟨#[]⟩ 0 0 0 0 0 ⟨#[]⟩ true (by decide)
  go_enter Try.func16, Try.ntmps16
  go_wp2_with fail
  refine (hten _).mono ?_
  rintro r w1 ⟨rfl, rfl⟩
  go_wp2_with (refine load_part rfl 25 _ rfl hB rfl (enCells [En.zero, En.zero]) hpart Try.underlying25 rfl (by rw [hsl]; exact size25) ?_)
  go_loopw [5, 14] (fun l i w' => ∃ j : Nat, j ≤ 2 ∧ i = .int .i64 j ∧ l = .slice none 0 0 ∧ Below w.heap.size w w') (fun _ i _ => 2 - (intOf i).toNat)
  case atStart => exact ⟨0, by omega, rfl, rfl, hb0⟩
  case round =>
    clear hB hb0
    obtain ⟨j, hj, rfl, rfl, hb⟩ := hrel
    by_cases hjl : j < 2
    · have kj : ∀ w, (Instr.index 25 (.agg (enCells [En.zero, En.zero]).toArray) (.int .i64 (j : Int))).run Try.prog w = .ok (.agg #[.int .i64 0, .int .i64 0, .int .i64 0, .int .u64 0, .int .u64 0, .string ⟨#[]⟩]) w := by
        intro w
        obtain rfl | rfl : j = 0 ∨ j = 1 := by omega
        all_goals kernel_rfl
      have hb1 := hb.alloc hb.size (.cells En.zero.vals.toArray 24)
      clear hb
      go_wp2_with fail
      refine ⟨⟨j + 1, by omega, by go_num, rfl, hb1⟩, by simp [intOf]; omega⟩
    · obtain rfl : j = 2 := by omega
      go_wp2_with fail
      go_ret
      exact ⟨rfl, hb⟩

end Go.Proofs.Ytdpghocgljnobaa
