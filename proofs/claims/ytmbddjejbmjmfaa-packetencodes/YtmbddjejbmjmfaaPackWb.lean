/-
  What Put and Fits return.
  No condition.
-/
import Derived.Test.YtmbddjejbmjmfaaPackWa
import Derived.Test.YtmbddjejbmjmfaaPackMath
namespace Go.Proofs.Ytmbddjejbmjmfaa
set_option maxRecDepth 10000
open Go.RowKit

theorem ret_string {s t : ByteArray} (h : s = t) : Ending.returned (.string s) = .returned (.string t) := by rw [h]

theorem ret_bool {s t : Bool} (h : s = t) : Ending.returned (.bool s) = .returned (.bool t) := by rw [h]

theorem slice8 (w : World) (B k : Nat) (h : k ≤ 8) : (Instr.sliceAt 111 (.pointer (some ⟨B, 0, none⟩)) none (some (.int .i64 (k : Int))) none).run Try.prog w = .ok (.slice (some ⟨B, 0, none⟩) k 8) w := by
  have ha : Try.prog.arrayLen 111 = 8 := by kernel_rfl
  have he : Try.prog.elem 111 = 5 := by kernel_rfl
  have hz : (sizeOf 5).run Try.prog w = .ok 1 w := by kernel_rfl
  rw [run_sliceAt_array_h w 111 _ (by kernel_rfl) .i64 (k : Int) (by omega) (by rw [ha]; omega), ha, he, hz]
  simp [slicedAt, Addr.add]
theorem slice256 (w : World) (B k : Nat) (h : k ≤ 256) : (Instr.sliceAt 122 (.pointer (some ⟨B, 0, none⟩)) none (some (.int .i64 (k : Int))) none).run Try.prog w = .ok (.slice (some ⟨B, 0, none⟩) k 256) w := by
  have ha : Try.prog.arrayLen 122 = 256 := by kernel_rfl
  have he : Try.prog.elem 122 = 5 := by kernel_rfl
  have hz : (sizeOf 5).run Try.prog w = .ok 1 w := by kernel_rfl
  rw [run_sliceAt_array_h w 122 _ (by kernel_rfl) .i64 (k : Int) (by omega) (by rw [ha]; omega), ha, he, hz]
  simp [slicedAt, Addr.add]

set_option maxHeartbeats 1000000 in
theorem put_ok (n : Nat) (k : Nat) (h1 : 1 ≤ k) (h8 : k ≤ 8) (w : World) :
    Calls Try.prog 59 #[.int .u64 (n : Int), .int .i64 (k : Int)] w fun e w' => e = .returned (.string (Pack.putB n k)) ∧ Below w.heap.size w w' := by
  have hi := isWidth_any (k : Int) w
  rw [decide_eq_true (by omega), decide_eq_true (by omega)] at hi
  go_enter Try.func59, Try.ntmps59
  go_wp2_with fail
  refine hi.mono ?_
  rintro e w1 ⟨rfl, rfl⟩
  go_wp2_with fail
  go_loopw [11] (fun i w' => ∃ m : Nat, ∃ f : Nat → UInt8, m ≤ k ∧ i = .int .i64 m ∧ Held w1.heap.size 8 f w' ∧ Below w1.heap.size w1 w' ∧ Hid (∀ j, k - m ≤ j → j < k → f j = Pack.putF n k j)) (fun i _ => (k - intOf i).toNat)
  case atStart =>
    refine ⟨0, fun _ => 0, by omega, rfl, ?_, (Below.refl _ _).alloc (Nat.le_refl _) _, ?_⟩
    · refine ⟨by simp, fun j hj => ?_⟩
      obtain rfl | rfl | rfl | rfl | rfl | rfl | rfl | rfl : j = 0 ∨ j = 1 ∨ j = 2 ∨ j = 3 ∨ j = 4 ∨ j = 5 ∨ j = 6 ∨ j = 7 := by omega
      all_goals simp [go_sem]
    · intro j _ _; omega
  case round =>
    obtain ⟨m, f, hm, rfl, hH, hb, hf⟩ := hrel
    by_cases hlt : m < k
    · have kc := (hH.2 (k - 1 - m) (by omega)).1
      have kf := (hH.2 (k - 1 - m) (by omega)).2
      have H : Hid ((n : Int) / 2 ^ (8 * m) % 256 = ((Pack.byteAt n m).toNat : Int)) := Pack.shr_eq n m
      go_wp2_with fail
      refine ⟨⟨m + 1, _, by omega, by go_num, (by rw [H.out]; exact hH.set (by omega) (Pack.byteAt n m)), ?_, ?_⟩, by simp [intOf]; omega⟩
      · exact hb.setCell (Nat.le_refl _) _
      · intro j h2 h3
        show (if j = k - 1 - m then _ else f j) = _
        split
        · rename_i hj
          unfold Pack.putF
          congr 1; omega
        · exact hf.out j (by omega) h3
    · have ks := slice8 wr w1.heap.size k h8
      have kc := (hH.less (show k ≤ 8 by omega)).conv (P := Try.prog) (cap := 8) 66 5 9 Try.underlying66 Try.underlying5 Try.underlying9
      go_wp2_with fail
      go_ret
      refine ⟨ret_string (textOf_congr fun j hj => hf.out j (by omega) hj), hb⟩

theorem put_bad (n : Nat) (k : Int) (h : ¬ (1 ≤ k ∧ k ≤ 8)) (w : World) :
    Calls Try.prog 59 #[.int .u64 (n : Int), .int .i64 k] w fun e w' => e = .returned (.string ⟨#[]⟩) ∧ w' = w := by
  have hi := isWidth_any k w
  have hd : (decide (1 ≤ k) && decide (k ≤ 8)) = false := by simp; omega
  rw [hd] at hi
  clear hd
  go_enter Try.func59, Try.ntmps59
  go_wp2_with fail
  refine hi.mono ?_
  rintro e w1 ⟨rfl, rfl⟩
  go_wp2_with fail
  go_ret
  exact ⟨rfl, rfl⟩

theorem fits_bad (n : Nat) (k : Int) (h : ¬ (1 ≤ k ∧ k ≤ 8)) (w : World) :
    Calls Try.prog 86 #[.int .u64 (n : Int), .int .i64 k] w fun e w' => e = .returned (.bool false) ∧ w' = w := by
  have hi := isWidth_any k w
  have hd : (decide (1 ≤ k) && decide (k ≤ 8)) = false := by simp; omega
  rw [hd] at hi
  clear hd
  go_enter Try.func86, Try.ntmps86
  go_wp2_with fail
  refine hi.mono ?_
  rintro e w1 ⟨rfl, rfl⟩
  go_wp2_with fail
  go_ret
  exact ⟨rfl, rfl⟩

theorem fits_ok (n : Nat) (k : Nat) (h1 : 1 ≤ k) (h8 : k ≤ 8) (w : World) :
    Calls Try.prog 86 #[.int .u64 (n : Int), .int .i64 (k : Int)] w fun e w' => e = .returned (.bool (decide (n < 256 ^ k))) ∧ w' = w := by
  have hi := isWidth_any (k : Int) w
  rw [decide_eq_true (by omega), decide_eq_true (by omega)] at hi
  go_enter Try.func86, Try.ntmps86
  go_wp2_with fail
  refine hi.mono ?_
  rintro e w1 ⟨rfl, rfl⟩
  go_wp2_with fail
  go_ret
  exact ⟨ret_bool (Pack.shr_zero n k), rfl⟩

end Go.Proofs.Ytmbddjejbmjmfaa
