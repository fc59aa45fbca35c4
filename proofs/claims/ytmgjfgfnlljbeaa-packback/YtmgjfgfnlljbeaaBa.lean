/-
  What the code puts ahead of any bytes is taken as it was, and these are left. Of the memory that was there nothing turns.
  Condition: the bytes behind are at most as many as any text has that can be read.
-/
import Derived.Test.YtmgjfgfnlljbeaaWf
import Derived.Test.YtmgjfgfnlljbeaaMb
namespace Go.Proofs.Ytmgjfgfnlljbeaa
open Go.RowKit

theorem num_back (n : Nat) (r : ByteArray) (hr : r.size ≤ 140737488351232) (k : Nat) (h1 : 1 ≤ k) (h8 : k ≤ 8) (w : World) :
    Calls Try.prog 8 #[.string (Pack.putB n k ++ r), .int .i64 (k : Int)] w fun e w' => e = .returned (.tuple #[.int .u64 ((n % 256 ^ k : Nat) : Int), .string r, .bool true]) ∧ Below w.heap.size w w' := by
  have hz := Pack.putB_size n k
  have h := take_ok (Pack.putB n k ++ r) (by rw [ByteArray.size_append, hz]; omega) k h1 h8 (by rw [ByteArray.size_append, hz]; omega) w
  rw [Pack.back_val, Pack.behind _ _ _ hz] at h
  exact h

theorem text_back (s r : ByteArray) (hr : r.size ≤ 140737488351232) (k : Nat) (h255 : k ≤ 255) (hk : s.size ≤ k) (w : World) :
    Calls Try.prog 17 #[.string (Pack.textB s k ++ r), .int .i64 (k : Int)] w fun e w' => e = .returned (.tuple #[.string s, .string r, .bool true]) ∧ Below w.heap.size w w' := by
  have hz := Pack.textB_size s k
  have hsz : (Pack.textB s k ++ r).size = 1 + k + r.size := by rw [ByteArray.size_append, hz]
  have hm := Pack.middle s r k hk
  have hf := Pack.front (Pack.textB s k) r (1 + k) hz
  have h := takeText_ok (Pack.textB s k ++ r) (by omega) k h255 (by omega) s.size
    (by rw [Pack.first s r k (by omega), UInt8.toNat_ofNat']; omega) hk (by rw [hf, hm]) w
  rw [hm, Pack.behind _ _ _ hz] at h
  exact h

theorem mod_same (n k : Nat) : (((n % 256 ^ k : Nat) : Int) == (n : Int)) = decide (n < 256 ^ k) := by
  have hp : 0 < 256 ^ k := Nat.pow_pos (by decide)
  rw [Bool.eq_iff_iff, beq_iff_eq, decide_eq_true_iff]
  constructor
  · intro h
    have h' : n % 256 ^ k = n := by omega
    rw [← h']
    exact Nat.mod_lt n hp
  · intro h
    rw [Nat.mod_eq_of_lt h]

end Go.Proofs.Ytmgjfgfnlljbeaa
