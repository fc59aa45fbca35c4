/-
  What is taken by the code's Take and TakeText, put again, is what stood there. Of the memory that was there nothing turns.
  Condition: a text has at most 2^47 bytes.
-/
import Derived.Test.YtmgjfgfnlljbeaaWf
import Derived.Test.YtmgjfgfnlljbeaaMb
namespace Go.Proofs.Ytmgjfgfnlljbeaa
open Go.RowKit

theorem stayed {f : Nat} {args : Array Value} {w : World} {v : Value} (h : Calls Try.prog f args w fun e w' => e = .returned v ∧ w' = w) :
    Calls Try.prog f args w fun e w' => e = .returned v ∧ Below w.heap.size w w' :=
  h.mono fun _ _ ⟨he, hw⟩ => ⟨he, by rw [hw]; exact Below.refl _ _⟩

theorem take_once (s : ByteArray) (hs : s.size ≤ 140737488355328) (k : Int) : ∃ (a : Nat) (x : ByteArray) (b : Bool),
    (∀ w, Calls Try.prog 8 #[.string s, .int .i64 k] w fun e w' => e = .returned (.tuple #[.int .u64 (a : Int), .string x, .bool b]) ∧ Below w.heap.size w w') ∧
    (b = false ∨ b = true ∧ ∃ t : ByteArray, t ++ x = s ∧
      (∀ w, Calls Try.prog 11 #[.int .u64 (a : Int), .int .i64 k] w fun e w' => e = .returned (.string t) ∧ Below w.heap.size w w') ∧
      (∀ w, Calls Try.prog 13 #[.int .u64 (a : Int), .int .i64 k] w fun e w' => e = .returned (.bool true) ∧ w' = w)) := by
  by_cases h : 1 ≤ k ∧ k ≤ 8
  · obtain ⟨m, rfl⟩ : ∃ m : Nat, k = (m : Int) := ⟨k.toNat, by omega⟩
    by_cases hm : m ≤ s.size
    · refine ⟨_, _, true, fun w => take_ok s hs m (by omega) (by omega) hm w, Or.inr ⟨rfl, _, Pack.once_put s m hm, fun w => put_ok _ m (by omega) (by omega) w, fun w => ?_⟩⟩
      have hf := fits_ok (Pack.val (s.data.toList.take m)) m (by omega) (by omega) w
      rwa [decide_eq_true (Pack.once_fits s m hm)] at hf
    · exact ⟨0, _, _, fun w => stayed (take_short s m (by omega) (by omega) (by omega) w), Or.inl rfl⟩
  · exact ⟨0, _, _, fun w => stayed (take_bad s k h w), Or.inl rfl⟩

theorem putText_whole (s : ByteArray) (k : Int) : ∃ (t : ByteArray) (b : Bool),
    (∀ w, Calls Try.prog 15 #[.string s, .int .i64 k] w fun e w' => e = .returned (.tuple #[.string t, .bool b]) ∧ Below w.heap.size w w') := by
  by_cases h : 0 ≤ k ∧ k ≤ 255
  · obtain ⟨m, rfl⟩ : ∃ m : Nat, k = (m : Int) := ⟨k.toNat, by omega⟩
    by_cases hm : s.size ≤ m
    · exact ⟨_, _, fun w => putText_ok s m (by omega) hm w⟩
    · exact ⟨_, _, fun w => stayed (putText_long s m (by omega) (by omega) w)⟩
  · exact ⟨_, _, fun w => stayed (putText_bad s k h w)⟩

theorem takeText_once (s : ByteArray) (hs : s.size ≤ 140737488355328) (k : Int) : ∃ (t x : ByteArray) (b : Bool) (f : ByteArray) (c : Bool),
    (∀ w, Calls Try.prog 17 #[.string s, .int .i64 k] w fun e w' => e = .returned (.tuple #[.string t, .string x, .bool b]) ∧ Below w.heap.size w w') ∧
    (∀ w, Calls Try.prog 15 #[.string t, .int .i64 k] w fun e w' => e = .returned (.tuple #[.string f, .bool c]) ∧ Below w.heap.size w w') ∧
    (b = false ∨ b = true ∧ c = true ∧ f ++ x = s) := by
  obtain ⟨f0, c0, k0⟩ := putText_whole ⟨#[]⟩ k
  by_cases h : 0 ≤ k ∧ k ≤ 255
  · obtain ⟨m, rfl⟩ : ∃ m : Nat, k = (m : Int) := ⟨k.toNat, by omega⟩
    have h255 : m ≤ 255 := by omega
    by_cases hm : 1 + m ≤ s.size
    · obtain ⟨a, ha⟩ : ∃ a, (s[0]'(by omega)).toNat = a := ⟨_, rfl⟩
      have h256 : a < 256 := by rw [← ha]; exact UInt8.toNat_lt _
      by_cases hl : a ≤ m
      · by_cases he : s.extract 0 (1 + m) = Pack.textB (s.extract 1 (1 + a)) m
        · refine ⟨_, _, _, _, _, fun w => takeText_ok s hs m h255 hm a ha hl he w, fun w => putText_ok _ m h255 (by simp; omega) w, Or.inr ⟨rfl, rfl, ?_⟩⟩
          rw [← he]
          exact Pack.join s (1 + m)
        · exact ⟨_, _, _, f0, c0, fun w => takeText_other s hs m h255 hm a ha hl he w, k0, Or.inl rfl⟩
      · exact ⟨_, _, _, f0, c0, fun w => stayed (takeText_head s m h255 hm a ha (by omega) h256 w), k0, Or.inl rfl⟩
    · exact ⟨_, _, _, f0, c0, fun w => stayed (takeText_short s m h255 (by omega) w), k0, Or.inl rfl⟩
  · exact ⟨_, _, _, f0, c0, fun w => stayed (takeText_bad s k h w), k0, Or.inl rfl⟩

end Go.Proofs.Ytmgjfgfnlljbeaa
