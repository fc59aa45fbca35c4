/-
  What the document's answers Step, Of, Four and Seal return: the same register, sum, four bytes and sealed text as the code's. Of the memory that was there nothing turns.
  Condition: a text has at most as many bytes as any text that can be read.
-/
import Derived.Test.YtmbddjejbmjmfaaCrcWc
namespace Go.Proofs.Ytmbddjejbmjmfaa
set_option maxRecDepth 10000
open Go.RowKit

set_option maxHeartbeats 400000 in
theorem rstep_any (r : BitVec 32) (b : UInt8) (w : World) :
    Calls Try.prog 56 #[.int .u32 (r.toNat : Int), .int .u8 (b.toNat : Int)] w fun e w' => e = .returned (.int .u32 ((Crc.step r b).toNat : Int)) ∧ w' = w := by
  have h1 := Crc.lt32 r
  have h2 := Crc.lt8 b
  have X : Hid (bits .xor .u32 (r.toNat : Int) (b.toNat : Int) = ((r ^^^ Crc.ext b).toNat : Int)) := Crc.xor_byte r b
  have Y : Hid (Crc.step r b = Crc.shN 8 (r ^^^ Crc.ext b)) := rfl
  generalize r ^^^ Crc.ext b = y at X Y
  go_enter Try.func56, Try.ntmps56
  go_wp2
  go_loop [0, 5] (fun x i => ∃ k : Nat, k ≤ 8 ∧ i = .int .i64 k ∧ ∃ z : BitVec 32, x = .int .u32 (z.toNat : Int) ∧ Hid (z = Crc.shN k y)) (fun _ i => (8 - intOf i).toNat)
  case atStart => exact ⟨0, by omega, rfl, y, by rw [X.out], rfl⟩
  case round =>
    obtain ⟨k, hk, rfl, z, rfl, hz⟩ := hrel
    clear h1 h2
    by_cases hlt : k < 8
    · by_cases hp : z.toNat % 2 = 1
      · have H : Hid (bits .xor .u32 ((z.toNat : Int) / 2) 3988292384 = ((Crc.sh z).toNat : Int)) := by
          unfold Hid; rw [Crc.half, Crc.xor_poly, Crc.sh_odd z hp]
        have hb : ((z.toNat : Int) % 2 == 1) = true := by rw [beq_iff_eq]; omega
        clear hp
        go_wp2
        go_round
        case rel => exact ⟨k + 1, by omega, by go_num, Crc.sh z, by rw [H.out], by rw [hz.out]; exact (Crc.shN_succ' k y).symm⟩
        case measure => simp [intOf]; omega
      · have hp : z.toNat % 2 = 0 := by omega
        have H : Hid ((z.toNat : Int) / 2 = ((Crc.sh z).toNat : Int)) := by
          unfold Hid; rw [Crc.half, Crc.sh_even z hp]
        have hb : ((z.toNat : Int) % 2 == 1) = false := by rw [beq_eq_false_iff_ne]; omega
        clear hp
        go_wp2
        go_round
        case rel => exact ⟨k + 1, by omega, by go_num, Crc.sh z, by rw [H.out], by rw [hz.out]; exact (Crc.shN_succ' k y).symm⟩
        case measure => simp [intOf]; omega
    · go_wp2
      go_ret
      have hk8 : k = 8 := by omega
      subst hk8
      exact ⟨ret_int (by rw [Y.out, hz.out]), rfl⟩

theorem inv_sub (z : BitVec 32) : (4294967295 : Int) - (z.toNat : Int) = ((~~~ z).toNat : Int) := by
  have := z.isLt
  rw [BitVec.toNat_not]; omega

set_option maxHeartbeats 400000 in
theorem rof_any (s : ByteArray) (w : World) (hs : s.size ≤ maxLen) :
    Calls Try.prog 34 #[.string s] w fun e w' => e = .returned (.int .u32 ((Crc.sum s.data.toList).toNat : Int)) ∧ w' = w := by
  unfold maxLen at hs
  go_enter Try.func34, Try.ntmps34
  go_wp2
  go_loop [3, 4] (fun x i => ∃ k : Nat, k ≤ s.size ∧ i = .int .i64 k ∧ ∃ z : BitVec 32, x = .int .u32 (z.toNat : Int) ∧ Hid (z = Crc.run Crc.ones (s.data.toList.take k))) (fun _ i => s.size - (intOf i).toNat)
  case atStart => exact ⟨0, by omega, rfl, Crc.ones, rfl, rfl⟩
  case round =>
    obtain ⟨k, hk, rfl, z, rfl, hz⟩ := hrel
    by_cases hlt : k < s.size
    · go_wp2_with (go_at_call 56; refine (rstep_any _ _ _).mono ?_; rintro e w' ⟨rfl, rfl⟩)
      go_round
      case rel => exact ⟨k + 1, by omega, by go_num, _, rfl, by rw [hz.out]; exact (run_take s k hlt).symm⟩
      case measure => simp [intOf]; omega
    · have hz' : Hid (~~~ z = Crc.sum s.data.toList) := by
        unfold Hid; rw [hz.out, List.take_of_length_le (by simp; omega)]; rfl
      have hn' : Hid ((4294967295 : Int) - (z.toNat : Int) = ((Crc.sum s.data.toList).toNat : Int)) := by unfold Hid; rw [inv_sub, hz'.out]
      have hl : (z.toNat : Int) < 4294967296 := Crc.lt32 z
      clear hz hz'
      go_wp2
      go_ret
      exact ⟨ret_int hn'.out, rfl⟩

theorem byteAt_eq (r : BitVec 32) (k : Nat) : ((r.toNat : Int) / 256 ^ k) % 256 = ((Crc.byteAt r k).toNat : Int) := by
  unfold Crc.byteAt
  rw [UInt8.toNat_ofNat', Nat.pow_mul]
  have h : ((r.toNat : Int) / 256 ^ k) = ((r.toNat / 256 ^ k : Nat) : Int) := by
    rw [Int.natCast_ediv, Int.natCast_pow]; rfl
  rw [h]
  show _ = ((r.toNat / 256 ^ k % 256 : Nat) : Int)
  omega
theorem div_more (r : BitVec 32) (k : Nat) : ((r.toNat : Int) / 256 ^ k) / 256 = (r.toNat : Int) / 256 ^ (k + 1) := by
  rw [Int.ediv_ediv_of_nonneg (Int.pow_nonneg (by omega)), Int.pow_succ]

theorem conv_row (a b c d : Int) (w : World) (B : Nat) (hB : B = w.heap.size) (T : TypeId) :
    (convert 66 9 (.slice (some ⟨B, 0, none⟩) 4 4)).run Try.prog (w.alloc (.cells #[.int .u8 a, .int .u8 b, .int .u8 c, .int .u8 d] T)) = .ok (.string (strOfNums [a, b, c, d])) (w.alloc (.cells #[.int .u8 a, .int .u8 b, .int .u8 c, .int .u8 d] T)) := by
  subst hB
  refine run_convert_bytes_arg _ 66 5 Try.underlying66 Try.underlying5 w.heap.size 0 4 4 [a, b, c, d] rfl ?_ 9 Try.underlying9
  intro i hi
  obtain rfl | rfl | rfl | rfl : i = 0 ∨ i = 1 ∨ i = 2 ∨ i = 3 := by omega
  all_goals simp [go_sem]

set_option maxHeartbeats 400000 in
theorem rfour_any (r : BitVec 32) (w : World) :
    Calls Try.prog 33 #[.int .u32 (r.toNat : Int)] w fun e w' => e = .returned (.string (Crc.four r)) ∧ Below w.heap.size w w' := by
  have hmk : ∀ w, (Instr.makeSlice 66 (.int .i64 4) (.int .i64 4)).run Try.prog w = .ok (.slice (some ⟨w.heap.size, 0, none⟩) 4 4) (w.alloc (.cells #[.int .u8 0, .int .u8 0, .int .u8 0, .int .u8 0] 5)) := fun _ => by kernel_rfl
  go_enter Try.func33, Try.ntmps33
  go_wp2
  go_loopw [0, 4] (fun x i w' => ∃ k : Nat, k ≤ 4 ∧ i = .int .i64 k ∧ ∃ a b c d : Int, w' = w.alloc (.cells #[.int .u8 a, .int .u8 b, .int .u8 c, .int .u8 d] 5) ∧ (∃ m : Int, x = .int .u32 m ∧ Hid (m = (r.toNat : Int) / 256 ^ k)) ∧ Hid ((0 < k → a = ((Crc.byteAt r 0).toNat : Int)) ∧ (1 < k → b = ((Crc.byteAt r 1).toNat : Int)) ∧ (2 < k → c = ((Crc.byteAt r 2).toNat : Int)) ∧ (3 < k → d = ((Crc.byteAt r 3).toNat : Int)))) (fun _ i _ => (4 - intOf i).toNat)
  case atStart => exact ⟨0, by omega, rfl, 0, 0, 0, 0, rfl, ⟨_, rfl, by unfold Hid; omega⟩, by omega, by omega, by omega, by omega⟩
  case round =>
    obtain ⟨k, hk, rfl, a, b, c, d, rfl, ⟨m, rfl, hm⟩, hh⟩ := hrel
    have hr := r.isLt
    have hm0 : 0 ≤ m := by rw [hm.out]; exact Int.ediv_nonneg (by omega) (Int.pow_nonneg (by omega))
    have hm1 : m < 4294967296 := by
      rw [hm.out]
      have : (r.toNat : Int) / 256 ^ k ≤ (r.toNat : Int) := Int.ediv_le_self _ (by omega)
      omega
    clear hr
    obtain rfl | rfl | rfl | rfl | rfl : k = 0 ∨ k = 1 ∨ k = 2 ∨ k = 3 ∨ k = 4 := by omega
    · go_wp2
      refine ⟨⟨1, by omega, rfl, _, b, c, d, rfl, ⟨_, rfl, ?_⟩, ?_⟩, by simp [intOf]⟩
      · unfold Hid; rw [hm.out]; exact div_more r 0
      · obtain ⟨e0, e1, e2, e3⟩ := hh.out
        exact ⟨fun _ => by rw [hm.out]; exact byteAt_eq r 0, fun h => by omega, fun h => by omega, fun h => by omega⟩
    · go_wp2
      refine ⟨⟨2, by omega, rfl, a, _, c, d, rfl, ⟨_, rfl, ?_⟩, ?_⟩, by simp [intOf]⟩
      · unfold Hid; rw [hm.out]; exact div_more r 1
      · obtain ⟨e0, e1, e2, e3⟩ := hh.out
        exact ⟨fun _ => e0 (by omega), fun _ => by rw [hm.out]; exact byteAt_eq r 1, fun h => by omega, fun h => by omega⟩
    · go_wp2
      refine ⟨⟨3, by omega, rfl, a, b, _, d, rfl, ⟨_, rfl, ?_⟩, ?_⟩, by simp [intOf]⟩
      · unfold Hid; rw [hm.out]; exact div_more r 2
      · obtain ⟨e0, e1, e2, e3⟩ := hh.out
        exact ⟨fun _ => e0 (by omega), fun _ => e1 (by omega), fun _ => by rw [hm.out]; exact byteAt_eq r 2, fun h => by omega⟩
    · go_wp2
      refine ⟨⟨4, by omega, rfl, a, b, c, _, rfl, ⟨_, rfl, ?_⟩, ?_⟩, by simp [intOf]⟩
      · unfold Hid; rw [hm.out]; exact div_more r 3
      · obtain ⟨e0, e1, e2, e3⟩ := hh.out
        exact ⟨fun _ => e0 (by omega), fun _ => e1 (by omega), fun _ => e2 (by omega), fun _ => by rw [hm.out]; exact byteAt_eq r 3⟩
    · obtain ⟨e0, e1, e2, e3⟩ := hh.out
      obtain rfl := e0 (by omega)
      obtain rfl := e1 (by omega)
      obtain rfl := e2 (by omega)
      obtain rfl := e3 (by omega)
      have kc := conv_row ((Crc.byteAt r 0).toNat : Int) ((Crc.byteAt r 1).toNat : Int) ((Crc.byteAt r 2).toNat : Int) ((Crc.byteAt r 3).toNat : Int) w w.heap.size rfl 5
      rw [Crc.strOf_four] at kc
      clear e0 e1 e2 e3 hh hm hm0 hm1
      go_wp2
      go_ret
      exact ⟨rfl, (Below.refl _ _).alloc (Nat.le_refl _) _⟩

set_option maxHeartbeats 400000 in
theorem rseal_any (s : ByteArray) (w : World) (hs : s.size ≤ 140737488351232) :
    Calls Try.prog 16 #[.string s] w fun e w' => e = .returned (.string (s ++ Crc.four (Crc.sum s.data.toList))) ∧ Below w.heap.size w w' := by
  have hs' : s.size ≤ maxLen := by unfold maxLen; omega
  have h4 : (Crc.four (Crc.sum s.data.toList)).size = 4 := rfl
  go_enter Try.func16, Try.ntmps16
  go_wp2_with (first | (go_at_call 34; refine (rof_any _ _ hs').mono ?_; rintro e w' ⟨rfl, rfl⟩) | (go_at_call 33; refine (rfour_any _ _).mono ?_; rintro e w' ⟨rfl, hb⟩))
  go_ret
  exact ⟨rfl, hb⟩

end Go.Proofs.Ytmbddjejbmjmfaa
