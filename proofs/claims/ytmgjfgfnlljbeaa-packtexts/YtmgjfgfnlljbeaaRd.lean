/-
  What the code's PutText and TakeText return is what the document's return, at all arguments. Of the memory that was there nothing turns.
  Condition: a text has at most 2^47 bytes.
-/
import Derived.Test.YtmgjfgfnlljbeaaRb
namespace Go.Proofs.Ytmgjfgfnlljbeaa
open Go.RowKit

theorem putText_same (s : ByteArray) (k : Int) : ∃ (t : ByteArray) (b : Bool),
    (∀ w, Calls Try.prog 15 #[.string s, .int .i64 k] w fun e w' => e = .returned (.tuple #[.string t, .bool b]) ∧ Below w.heap.size w w') ∧
    (∀ w, Calls Try.prog 16 #[.string s, .int .i64 k] w fun e w' => e = .returned (.tuple #[.string t, .bool b]) ∧ Below w.heap.size w w') := by
  by_cases h : 0 ≤ k ∧ k ≤ 255
  · obtain ⟨m, rfl⟩ : ∃ m : Nat, k = (m : Int) := ⟨k.toNat, by omega⟩
    by_cases hm : s.size ≤ m
    · exact ⟨_, _, fun w => putText_ok s m (by omega) hm w, fun w => rputText_ok s m (by omega) hm w⟩
    · exact ⟨_, _, fun w => stays (putText_long s m (by omega) (by omega) w), fun w => stays (rputText_long s m (by omega) (by omega) w)⟩
  · exact ⟨_, _, fun w => stays (putText_bad s k h w), fun w => stays (rputText_bad s k h w)⟩

theorem takeText_same (s : ByteArray) (hs : s.size ≤ 140737488355328) (k : Int) : ∃ (t x : ByteArray) (b : Bool),
    (∀ w, Calls Try.prog 17 #[.string s, .int .i64 k] w fun e w' => e = .returned (.tuple #[.string t, .string x, .bool b]) ∧ Below w.heap.size w w') ∧
    (∀ w, Calls Try.prog 18 #[.string s, .int .i64 k] w fun e w' => e = .returned (.tuple #[.string t, .string x, .bool b]) ∧ Below w.heap.size w w') := by
  by_cases h : 0 ≤ k ∧ k ≤ 255
  · obtain ⟨m, rfl⟩ : ∃ m : Nat, k = (m : Int) := ⟨k.toNat, by omega⟩
    have h255 : m ≤ 255 := by omega
    by_cases hm : 1 + m ≤ s.size
    · obtain ⟨a, ha⟩ : ∃ a, (s[0]'(by omega)).toNat = a := ⟨_, rfl⟩
      have h256 : a < 256 := by rw [← ha]; exact UInt8.toNat_lt _
      by_cases hl : a ≤ m
      · by_cases he : s.extract 0 (1 + m) = Pack.textB (s.extract 1 (1 + a)) m
        · exact ⟨_, _, _, fun w => takeText_ok s hs m h255 hm a ha hl he w, fun w => rtakeText_ok s hs m h255 hm a ha hl he w⟩
        · exact ⟨_, _, _, fun w => takeText_other s hs m h255 hm a ha hl he w, fun w => rtakeText_other s hs m h255 hm a ha hl he w⟩
      · exact ⟨_, _, _, fun w => stays (takeText_head s m h255 hm a ha (by omega) h256 w), fun w => stays (rtakeText_head s m h255 hm a ha (by omega) h256 w)⟩
    · exact ⟨_, _, _, fun w => stays (takeText_short s m h255 (by omega) w), fun w => stays (rtakeText_short s m h255 (by omega) w)⟩
  · exact ⟨_, _, _, fun w => stays (takeText_bad s k h w), fun w => stays (rtakeText_bad s k h w)⟩

end Go.Proofs.Ytmgjfgfnlljbeaa
