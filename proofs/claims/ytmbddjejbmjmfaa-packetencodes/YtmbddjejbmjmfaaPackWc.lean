/-
  What Take returns: the number of the first bytes and a copy of what is behind them. Of the memory that was there nothing turns.
  Condition: a text has at most 2^47 bytes.
-/
import Derived.Test.YtmbddjejbmjmfaaPackWb
namespace Go.Proofs.Ytmbddjejbmjmfaa
set_option maxRecDepth 10000
open Go.RowKit

theorem take_bad (s : ByteArray) (k : Int) (h : ¬ (1 ≤ k ∧ k ≤ 8)) (w : World) :
    Calls Try.prog 63 #[.string s, .int .i64 k] w fun e w' => e = .returned (.tuple #[.int .u64 0, .string ⟨#[]⟩, .bool false]) ∧ w' = w := by
  have hi := isWidth_any k w
  have hd : (decide (1 ≤ k) && decide (k ≤ 8)) = false := by simp; omega
  rw [hd] at hi
  clear hd
  go_enter Try.func63, Try.ntmps63
  go_wp2_with fail
  refine hi.mono ?_
  rintro e w1 ⟨rfl, rfl⟩
  go_wp2_with fail
  go_ret3
  exact ⟨rfl, rfl⟩

theorem take_short (s : ByteArray) (k : Nat) (h1 : 1 ≤ k) (h8 : k ≤ 8) (hk : s.size < k) (w : World) :
    Calls Try.prog 63 #[.string s, .int .i64 (k : Int)] w fun e w' => e = .returned (.tuple #[.int .u64 0, .string ⟨#[]⟩, .bool false]) ∧ w' = w := by
  have hi := isWidth_any (k : Int) w
  rw [decide_eq_true (by omega), decide_eq_true (by omega)] at hi
  go_enter Try.func63, Try.ntmps63
  go_wp2_with fail
  refine hi.mono ?_
  rintro e w1 ⟨rfl, rfl⟩
  go_wp2_with fail
  go_ret3
  exact ⟨rfl, rfl⟩

set_option maxHeartbeats 1000000 in
theorem take_ok (s : ByteArray) (hs : s.size ≤ 140737488355328) (k : Nat) (h1 : 1 ≤ k) (h8 : k ≤ 8) (hk : k ≤ s.size) (w : World) :
    Calls Try.prog 63 #[.string s, .int .i64 (k : Int)] w fun e w' => e = .returned (.tuple #[.int .u64 (Pack.val (s.data.toList.take k) : Int), .string (s.extract k s.size), .bool true]) ∧ Below w.heap.size w w' := by
  have hi := isWidth_any (k : Int) w
  rw [decide_eq_true (by omega), decide_eq_true (by omega)] at hi
  have hlen : ¬ s.size < k := by omega
  go_enter Try.func63, Try.ntmps63
  go_wp2_with fail
  refine hi.mono ?_
  rintro e w1 ⟨rfl, rfl⟩
  go_wp2_with fail
  go_loop [7, 19] (fun x i => ∃ m : Nat, m ≤ k ∧ i = .int .i64 m ∧ ∃ z : Nat, x = .int .u64 (z : Int) ∧ Hid (z = Pack.val (s.data.toList.take m))) (fun _ i => (k - intOf i).toNat)
  case atStart => exact ⟨0, by omega, rfl, 0, rfl, rfl⟩
  case round =>
    obtain ⟨m, hm, rfl, z, rfl, hz⟩ := hrel
    by_cases hlt : m < k
    · have hms : m < s.size := by omega
      have hsm := Pack.val_small (s.data.toList.take m) (by rw [List.length_take]; omega)
      have H : Hid (bits .or .u64 (IntKind.u64.wrap ((z : Int) * 256)) (IntKind.u64.wrap (s[m].toNat : Int)) = ((z * 256 + s[m].toNat : Nat) : Int)) :=
        Pack.or_step z s[m].toNat (by rw [hz.out]; exact Nat.lt_of_le_of_lt (Nat.le_add_right _ 255) hsm) s[m].toNat_lt
      have Z : Hid (z * 256 + s[m].toNat = Pack.val (s.data.toList.take (m + 1))) := by
        unfold Hid; rw [Pack.val_take _ m (by rw [Array.length_toList]; exact hms), hz.out]; rfl
      clear hsm
      go_wp2_with fail
      go_round
      case rel => exact ⟨m + 1, by omega, by go_num, _, by rw [H.out], Z⟩
      case measure => simp [intOf]; omega
    · go_wp2_with fail
      refine (own_any _ _ (by simp; omega)).mono ?_
      rintro e w2 ⟨rfl, hb2⟩
      go_wp2_with fail
      go_ret3
      obtain rfl : m = k := by omega
      have hz' := hz.out
      subst hz'
      exact ⟨rfl, hb2⟩

end Go.Proofs.Ytmbddjejbmjmfaa
