/-
  What the code's Put, Fits and Take return is what the document's return, at all arguments. Of the memory that was there nothing turns.
  Condition: a text has at most 2^47 bytes.
-/
import Derived.Test.YtmgjfgfnlljbeaaRa
namespace Go.Proofs.Ytmgjfgfnlljbeaa
open Go.RowKit

theorem stays {f : Nat} {args : Array Value} {w : World} {v : Value} (h : Calls Try.prog f args w fun e w' => e = .returned v ∧ w' = w) :
    Calls Try.prog f args w fun e w' => e = .returned v ∧ Below w.heap.size w w' :=
  h.mono fun _ _ ⟨he, hw⟩ => ⟨he, by rw [hw]; exact Below.refl _ _⟩

theorem put_same (n : Nat) (hn : n < 18446744073709551616) (k : Int) : ∃ t : ByteArray,
    (∀ w, Calls Try.prog 11 #[.int .u64 (n : Int), .int .i64 k] w fun e w' => e = .returned (.string t) ∧ Below w.heap.size w w') ∧
    (∀ w, Calls Try.prog 12 #[.int .u64 (n : Int), .int .i64 k] w fun e w' => e = .returned (.string t) ∧ Below w.heap.size w w') := by
  by_cases h : 1 ≤ k ∧ k ≤ 8
  · obtain ⟨m, rfl⟩ : ∃ m : Nat, k = (m : Int) := ⟨k.toNat, by omega⟩
    exact ⟨_, fun w => put_ok n m (by omega) (by omega) w, fun w => rput_ok n hn m (by omega) (by omega) w⟩
  · exact ⟨_, fun w => stays (put_bad n k h w), fun w => stays (rput_bad n k h w)⟩

theorem fits_same (n : Nat) (hn : n < 18446744073709551616) (k : Int) : ∃ b : Bool,
    (∀ w, Calls Try.prog 13 #[.int .u64 (n : Int), .int .i64 k] w fun e w' => e = .returned (.bool b) ∧ w' = w) ∧
    (∀ w, Calls Try.prog 14 #[.int .u64 (n : Int), .int .i64 k] w fun e w' => e = .returned (.bool b) ∧ w' = w) := by
  by_cases h : 1 ≤ k ∧ k ≤ 8
  · obtain ⟨m, rfl⟩ : ∃ m : Nat, k = (m : Int) := ⟨k.toNat, by omega⟩
    exact ⟨_, fun w => fits_ok n m (by omega) (by omega) w, fun w => rfits_ok n hn m (by omega) (by omega) w⟩
  · exact ⟨_, fun w => fits_bad n k h w, fun w => rfits_bad n k h w⟩

theorem take_same (s : ByteArray) (hs : s.size ≤ 140737488355328) (k : Int) : ∃ (a : Int) (x : ByteArray) (b : Bool),
    (∀ w, Calls Try.prog 8 #[.string s, .int .i64 k] w fun e w' => e = .returned (.tuple #[.int .u64 a, .string x, .bool b]) ∧ Below w.heap.size w w') ∧
    (∀ w, Calls Try.prog 9 #[.string s, .int .i64 k] w fun e w' => e = .returned (.tuple #[.int .u64 a, .string x, .bool b]) ∧ Below w.heap.size w w') := by
  by_cases h : 1 ≤ k ∧ k ≤ 8
  · obtain ⟨m, rfl⟩ : ∃ m : Nat, k = (m : Int) := ⟨k.toNat, by omega⟩
    by_cases hm : m ≤ s.size
    · exact ⟨_, _, _, fun w => take_ok s hs m (by omega) (by omega) hm w, fun w => rtake_ok s hs m (by omega) (by omega) hm w⟩
    · exact ⟨_, _, _, fun w => stays (take_short s m (by omega) (by omega) (by omega) w), fun w => stays (rtake_short s m (by omega) (by omega) (by omega) w)⟩
  · exact ⟨_, _, _, fun w => stays (take_bad s k h w), fun w => stays (rtake_bad s k h w)⟩

end Go.Proofs.Ytmgjfgfnlljbeaa
