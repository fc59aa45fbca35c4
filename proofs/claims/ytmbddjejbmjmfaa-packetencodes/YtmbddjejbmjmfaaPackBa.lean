/-
  What is put ahead of any bytes is taken as it was, and these are left: the code's Take and TakeText, and the document's. Of the memory that was there nothing turns.
  Condition: the bytes behind are at most as many as any text has that can be read.
-/
import Derived.Test.YtmbddjejbmjmfaaPackRb
import Derived.Test.YtmbddjejbmjmfaaPackMb
namespace Go.Proofs.Ytmbddjejbmjmfaa
set_option maxRecDepth 10000
open Go.RowKit

theorem num_back (n : Nat) (r : ByteArray) (hr : r.size ≤ 140737488351232) (k : Nat) (h1 : 1 ≤ k) (h8 : k ≤ 8) (w : World) :
    Calls Try.prog 63 #[.string (Pack.putB n k ++ r), .int .i64 (k : Int)] w fun e w' => e = .returned (.tuple #[.int .u64 ((n % 256 ^ k : Nat) : Int), .string r, .bool true]) ∧ Below w.heap.size w w' := by
  have hz := Pack.putB_size n k
  have h := take_ok (Pack.putB n k ++ r) (by rw [ByteArray.size_append, hz]; omega) k h1 h8 (by rw [ByteArray.size_append, hz]; omega) w
  rw [Pack.back_val, Pack.behind _ _ _ hz] at h
  exact h

theorem text_back (s r : ByteArray) (hr : r.size ≤ 140737488351232) (k : Nat) (h255 : k ≤ 255) (hk : s.size ≤ k) (w : World) :
    Calls Try.prog 84 #[.string (Pack.textB s k ++ r), .int .i64 (k : Int)] w fun e w' => e = .returned (.tuple #[.string s, .string r, .bool true]) ∧ Below w.heap.size w w' := by
  have hz := Pack.textB_size s k
  have hsz : (Pack.textB s k ++ r).size = 1 + k + r.size := by rw [ByteArray.size_append, hz]
  have hm := Pack.middle s r k hk
  have hf := Pack.front (Pack.textB s k) r (1 + k) hz
  have h := takeText_ok (Pack.textB s k ++ r) (by omega) k h255 (by omega) s.size
    (by rw [Pack.first s r k (by omega), UInt8.toNat_ofNat']; omega) hk (by rw [hf, hm]) w
  rw [hm, Pack.behind _ _ _ hz] at h
  exact h

theorem rnum_back (n : Nat) (r : ByteArray) (hr : r.size ≤ 140737488351232) (k : Nat) (h1 : 1 ≤ k) (h8 : k ≤ 8) (w : World) :
    Calls Try.prog 54 #[.string (Pack.putB n k ++ r), .int .i64 (k : Int)] w fun e w' => e = .returned (.tuple #[.int .u64 ((n % 256 ^ k : Nat) : Int), .string r, .bool true]) ∧ Below w.heap.size w w' := by
  have hz := Pack.putB_size n k
  have h := rtake_ok (Pack.putB n k ++ r) (by rw [ByteArray.size_append, hz]; omega) k h1 h8 (by rw [ByteArray.size_append, hz]; omega) w
  rw [Pack.back_val, Pack.behind _ _ _ hz] at h
  exact h

theorem rtext_back (s r : ByteArray) (hr : r.size ≤ 140737488351232) (k : Nat) (h255 : k ≤ 255) (hk : s.size ≤ k) (w : World) :
    Calls Try.prog 66 #[.string (Pack.textB s k ++ r), .int .i64 (k : Int)] w fun e w' => e = .returned (.tuple #[.string s, .string r, .bool true]) ∧ Below w.heap.size w w' := by
  have hz := Pack.textB_size s k
  have hsz : (Pack.textB s k ++ r).size = 1 + k + r.size := by rw [ByteArray.size_append, hz]
  have hm := Pack.middle s r k hk
  have hf := Pack.front (Pack.textB s k) r (1 + k) hz
  have h := rtakeText_ok (Pack.textB s k ++ r) (by omega) k h255 (by omega) s.size
    (by rw [Pack.first s r k (by omega), UInt8.toNat_ofNat']; omega) hk (by rw [hf, hm]) w
  rw [hm, Pack.behind _ _ _ hz] at h
  exact h

theorem takeText_known (s : ByteArray) (hs : s.size ≤ 140737488355328) (m : Nat) (h255 : m ≤ 255) : ∃ (t x : ByteArray) (b : Bool),
    (∀ w, Calls Try.prog 84 #[.string s, .int .i64 (m : Int)] w fun e w' => e = .returned (.tuple #[.string t, .string x, .bool b]) ∧ Below w.heap.size w w') ∧
    (∀ w, Calls Try.prog 66 #[.string s, .int .i64 (m : Int)] w fun e w' => e = .returned (.tuple #[.string t, .string x, .bool b]) ∧ Below w.heap.size w w') ∧
    (b = false ∨ b = true ∧ s = Pack.textB t m ++ x ∧ t.size ≤ m) := by
  by_cases hm : 1 + m ≤ s.size
  · obtain ⟨a, ha⟩ : ∃ a, (s[0]'(by omega)).toNat = a := ⟨_, rfl⟩
    have h256 : a < 256 := by rw [← ha]; exact UInt8.toNat_lt _
    by_cases hl : a ≤ m
    · by_cases he : s.extract 0 (1 + m) = Pack.textB (s.extract 1 (1 + a)) m
      · refine ⟨_, _, _, fun w => takeText_ok s hs m h255 hm a ha hl he w, fun w => rtakeText_ok s hs m h255 hm a ha hl he w, Or.inr ⟨rfl, ?_, by simp; omega⟩⟩
        rw [← he]
        exact (Pack.join s (1 + m)).symm
      · exact ⟨_, _, _, fun w => takeText_other s hs m h255 hm a ha hl he w, fun w => rtakeText_other s hs m h255 hm a ha hl he w, Or.inl rfl⟩
    · exact ⟨_, _, _, fun w => stays (takeText_head s m h255 hm a ha (by omega) h256 w), fun w => stays (rtakeText_head s m h255 hm a ha (by omega) h256 w), Or.inl rfl⟩
  · exact ⟨_, _, _, fun w => stays (takeText_short s m h255 (by omega) w), fun w => stays (rtakeText_short s m h255 (by omega) w), Or.inl rfl⟩

end Go.Proofs.Ytmbddjejbmjmfaa
