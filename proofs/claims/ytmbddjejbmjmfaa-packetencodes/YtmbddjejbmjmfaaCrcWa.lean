/-
  What the code's Step and Of return: the register behind a byte's step, the sum of a text; the world stands.
  Condition: a text has at most as many bytes as any text that can be read.
-/
import Derived.Test.YtmbddjejbmjmfaaProg
import Derived.Test.YtmbddjejbmjmfaaCrcNum
import Derived.WalkKit
import Derived.WalkSpells
import Derived.WalkLawsBesides
namespace Go.Proofs.Ytmbddjejbmjmfaa
set_option maxRecDepth 10000
open Go.RowKit

theorem ret_int {k : IntKind} {a b : Int} (h : a = b) : Ending.returned (.int k a) = .returned (.int k b) := by rw [h]

set_option maxHeartbeats 400000 in
theorem shift_any (r : BitVec 32) (w : World) :
    Calls Try.prog 67 #[.int .u32 (r.toNat : Int)] w fun e w' => e = .returned (.int .u32 ((Crc.sh r).toNat : Int)) ∧ w' = w := by
  have h1 := Crc.lt32 r
  have h0 : (0 : Int) ≤ (r.toNat : Int) := by omega
  have ha := Crc.and_one r
  have hh := Crc.half r
  by_cases hp : r.toNat % 2 = 1
  · have H : Hid (bits .xor .u32 ((r.toNat : Int) / 2) 3988292384 = ((Crc.sh r).toNat : Int)) := by
      unfold Hid; rw [hh, Crc.xor_poly, Crc.sh_odd r hp]
    have hb : (bits .and .u32 (r.toNat : Int) 1 == 1) = true := by rw [ha, hp]; rfl
    clear ha hh hp
    go_enter Try.func67, Try.ntmps67
    go_wp2
    go_ret
    exact ⟨ret_int H.out, rfl⟩
  · have hp : r.toNat % 2 = 0 := by omega
    have H : Hid ((r.toNat : Int) / 2 = ((Crc.sh r).toNat : Int)) := by
      unfold Hid; rw [hh, Crc.sh_even r hp]
    have hb : (bits .and .u32 (r.toNat : Int) 1 == 1) = false := by rw [ha, hp]; rfl
    clear ha hh hp
    go_enter Try.func67, Try.ntmps67
    go_wp2
    go_ret
    exact ⟨ret_int H.out, rfl⟩

set_option maxHeartbeats 400000 in
theorem step_any (r : BitVec 32) (b : UInt8) (w : World) :
    Calls Try.prog 57 #[.int .u32 (r.toNat : Int), .int .u8 (b.toNat : Int)] w fun e w' => e = .returned (.int .u32 ((Crc.step r b).toNat : Int)) ∧ w' = w := by
  have h1 := Crc.lt32 r
  have h2 := Crc.lt8 b
  have X : Hid (bits .xor .u32 (r.toNat : Int) (b.toNat : Int) = ((r ^^^ Crc.ext b).toNat : Int)) := Crc.xor_byte r b
  have Y : Hid (Crc.step r b = Crc.shN 8 (r ^^^ Crc.ext b)) := rfl
  generalize r ^^^ Crc.ext b = y at X Y
  go_enter Try.func57, Try.ntmps57
  go_wp2
  go_loop [0, 9] (fun x i => ∃ k : Nat, k ≤ 8 ∧ i = .int .i64 k ∧ ∃ z : BitVec 32, x = .int .u32 (z.toNat : Int) ∧ Hid (z = Crc.shN k y)) (fun _ i => (8 - intOf i).toNat)
  case atStart => exact ⟨0, by omega, rfl, y, by rw [X.out], rfl⟩
  case round =>
    obtain ⟨k, hk, rfl, z, rfl, hz⟩ := hrel
    clear h1 h2
    by_cases hlt : k < 8
    · go_wp2_with (go_at_call 67; refine (shift_any _ _).mono ?_; rintro e w' ⟨rfl, rfl⟩)
      go_round
      case rel => exact ⟨k + 1, by omega, by go_num, Crc.sh z, rfl, by rw [hz.out]; exact (Crc.shN_succ' k y).symm⟩
      case measure => simp [intOf]; omega
    · go_wp2
      go_ret
      have hk8 : k = 8 := by omega
      subst hk8
      exact ⟨ret_int (by rw [Y.out, hz.out]), rfl⟩

theorem take_snoc (s : ByteArray) (k : Nat) (h : k < s.size) : s.data.toList.take (k + 1) = s.data.toList.take k ++ [s[k]] := by
  rw [List.take_succ_eq_append_getElem (by simpa using h)]; rfl

theorem run_take (s : ByteArray) (k : Nat) (h : k < s.size) : Crc.run Crc.ones (s.data.toList.take (k + 1)) = Crc.step (Crc.run Crc.ones (s.data.toList.take k)) s[k] := by
  rw [take_snoc s k h, Crc.run_snoc]

set_option maxHeartbeats 400000 in
theorem of_any (s : ByteArray) (w : World) (hs : s.size ≤ maxLen) :
    Calls Try.prog 36 #[.string s] w fun e w' => e = .returned (.int .u32 ((Crc.sum s.data.toList).toNat : Int)) ∧ w' = w := by
  unfold maxLen at hs
  go_enter Try.func36, Try.ntmps36
  go_wp2
  go_loop [3, 4, 7] (fun x _ i => ∃ k : Nat, k ≤ s.size ∧ i = .int .i64 k ∧ ∃ z : BitVec 32, x = .int .u32 (z.toNat : Int) ∧ Hid (z = Crc.run Crc.ones (s.data.toList.take k))) (fun _ _ i => s.size - (intOf i).toNat)
  case atStart => exact ⟨0, by omega, rfl, Crc.ones, rfl, rfl⟩
  case round =>
    obtain ⟨k, hk, rfl, z, rfl, hz⟩ := hrel
    by_cases hlt : k < s.size
    · go_wp2_with (go_at_call 57; refine (step_any _ _ _).mono ?_; rintro e w' ⟨rfl, rfl⟩)
      go_round
      case rel => exact ⟨k + 1, by omega, by go_num, _, rfl, by rw [hz.out]; exact (run_take s k hlt).symm⟩
      case measure => simp [intOf]; omega
    · have hz' : Hid (~~~ z = Crc.sum s.data.toList) := by
        unfold Hid; rw [hz.out, List.take_of_length_le (by simp; omega)]; rfl
      have hn := Crc.not32 z
      have hn' : Hid (bits .xor .u32 4294967295 (z.toNat : Int) = ((Crc.sum s.data.toList).toNat : Int)) := by unfold Hid; rw [hn, hz'.out]
      clear hz hz' hn
      go_wp2
      go_ret
      exact ⟨ret_int hn'.out, rfl⟩

end Go.Proofs.Ytmbddjejbmjmfaa
