/-
  What the code's sumBytes and Seal return: a sum's four bytes, the lowest first; a text and its sum's four bytes. Of the memory that was there nothing turns.
  Condition: a text has at most as many bytes as any text that can be read.
-/
import Derived.Test.YtmbddjejbmjmfaaCrcWa
namespace Go.Proofs.Ytmbddjejbmjmfaa
set_option maxRecDepth 10000
open Go.RowKit

theorem conv_four (a b c d : Int) (w : World) (B : Nat) (hB : B = w.heap.size) :
    (convert 66 9 (.slice (some ⟨B, 0, none⟩) 4 4)).run Try.prog (w.alloc (.cells #[.int .u8 a, .int .u8 b, .int .u8 c, .int .u8 d] 96)) = .ok (.string (strOfNums [a, b, c, d])) (w.alloc (.cells #[.int .u8 a, .int .u8 b, .int .u8 c, .int .u8 d] 96)) := by
  subst hB
  refine run_convert_bytes_arg _ 66 5 Try.underlying66 Try.underlying5 w.heap.size 0 4 4 [a, b, c, d] rfl ?_ 9 Try.underlying9
  intro i hi
  obtain rfl | rfl | rfl | rfl : i = 0 ∨ i = 1 ∨ i = 2 ∨ i = 3 := by omega
  all_goals simp [go_sem]

set_option maxHeartbeats 400000 in
theorem sumBytes_any (r : BitVec 32) (w : World) :
    Calls Try.prog 35 #[.int .u32 (r.toNat : Int)] w fun e w' => e = .returned (.string (Crc.four r)) ∧ Below w.heap.size w w' := by
  have h1 := Crc.lt32 r
  go_enter Try.func35, Try.ntmps35
  go_wp2
  clear h1
  go_loopw [4, 5] (fun _ i w' => ∃ k : Nat, k ≤ 4 ∧ i = .int .i64 k ∧ ∃ a b c d : Int, w' = w.alloc (.cells #[.int .u8 a, .int .u8 b, .int .u8 c, .int .u8 d] 96) ∧ Hid ((0 < k → a = ((Crc.byteAt r 0).toNat : Int)) ∧ (1 < k → b = ((Crc.byteAt r 1).toNat : Int)) ∧ (2 < k → c = ((Crc.byteAt r 2).toNat : Int)) ∧ (3 < k → d = ((Crc.byteAt r 3).toNat : Int)))) (fun _ i _ => (4 - intOf i).toNat)
  case atStart => exact ⟨0, by omega, rfl, 0, 0, 0, 0, rfl, by omega, by omega, by omega, by omega⟩
  case round =>
    obtain ⟨k, hk, rfl, a, b, c, d, rfl, hh⟩ := hrel
    obtain rfl | rfl | rfl | rfl | rfl : k = 0 ∨ k = 1 ∨ k = 2 ∨ k = 3 ∨ k = 4 := by omega
    · go_wp2
      refine ⟨⟨1, by omega, rfl, _, b, c, d, rfl, ?_⟩, by simp [intOf]⟩
      obtain ⟨e0, e1, e2, e3⟩ := hh.out
      exact ⟨fun _ => Crc.byteAt0 r, fun h => by omega, fun h => by omega, fun h => by omega⟩
    · go_wp2
      refine ⟨⟨2, by omega, rfl, a, _, c, d, rfl, ?_⟩, by simp [intOf]⟩
      obtain ⟨e0, e1, e2, e3⟩ := hh.out
      exact ⟨fun _ => e0 (by omega), fun _ => Crc.byteAt1 r, fun h => by omega, fun h => by omega⟩
    · go_wp2
      refine ⟨⟨3, by omega, rfl, a, b, _, d, rfl, ?_⟩, by simp [intOf]⟩
      obtain ⟨e0, e1, e2, e3⟩ := hh.out
      exact ⟨fun _ => e0 (by omega), fun _ => e1 (by omega), fun _ => Crc.byteAt2 r, fun h => by omega⟩
    · go_wp2
      refine ⟨⟨4, by omega, rfl, a, b, c, _, rfl, ?_⟩, by simp [intOf]⟩
      obtain ⟨e0, e1, e2, e3⟩ := hh.out
      exact ⟨fun _ => e0 (by omega), fun _ => e1 (by omega), fun _ => e2 (by omega), fun _ => Crc.byteAt3 r⟩
    · obtain ⟨e0, e1, e2, e3⟩ := hh.out
      obtain rfl := e0 (by omega)
      obtain rfl := e1 (by omega)
      obtain rfl := e2 (by omega)
      obtain rfl := e3 (by omega)
      have kc := conv_four ((Crc.byteAt r 0).toNat : Int) ((Crc.byteAt r 1).toNat : Int) ((Crc.byteAt r 2).toNat : Int) ((Crc.byteAt r 3).toNat : Int) w w.heap.size rfl
      rw [Crc.strOf_four] at kc
      clear e0 e1 e2 e3 hh
      go_wp2
      go_ret
      exact ⟨rfl, (Below.refl _ _).alloc (Nat.le_refl _) _⟩

set_option maxHeartbeats 400000 in
theorem seal_any (s : ByteArray) (w : World) (hs : s.size ≤ 140737488351232) :
    Calls Try.prog 21 #[.string s] w fun e w' => e = .returned (.string (s ++ Crc.four (Crc.sum s.data.toList))) ∧ Below w.heap.size w w' := by
  have hs' : s.size ≤ maxLen := by unfold maxLen; omega
  have h4 : (Crc.four (Crc.sum s.data.toList)).size = 4 := rfl
  go_enter Try.func21, Try.ntmps21
  go_wp2_with (first | (go_at_call 36; refine (of_any _ _ hs').mono ?_; rintro e w' ⟨rfl, rfl⟩) | (go_at_call 35; refine (sumBytes_any _ _).mono ?_; rintro e w' ⟨rfl, hb⟩))
  go_ret
  exact ⟨rfl, hb⟩

end Go.Proofs.Ytmbddjejbmjmfaa
