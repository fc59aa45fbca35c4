/-
  What the code's Ok returns: whether a text has four bytes at least, and its last four are the sum of what is ahead. Of the memory that was there nothing turns.
  Condition: a text has at most as many bytes as any text that can be read.
-/
import Derived.Test.YtbkhenooimjcfaaWb
import Derived.Deep.RegionWith
import Derived.Deep.QuietTactic
import Derived.BigQuiet
namespace Go.Proofs.Ytbkhenooimjcfaa
open Go.RowKit

set_option maxHeartbeats 400000 in
theorem ok_short (s : ByteArray) (w : World) (hs : s.size < 4) :
    Calls Try.prog 15 #[.string s] w fun e w' => e = .returned (.bool false) ∧ Below w.heap.size w w' := by
  go_enter Try.func15, Try.ntmps15
  go_wp2
  go_ret
  exact ⟨rfl, Below.refl _ _⟩

set_option maxHeartbeats 400000 in
theorem ok_long (s : ByteArray) (w : World) (hs4 : 4 ≤ s.size) (hs : s.size ≤ 140737488351232) :
    Calls Try.prog 15 #[.string s] w fun e w' => e = .returned (.bool ((s.extract (s.size - 4) s.size).toList == (Crc.four (Crc.sum (s.data.toList.take (s.size - 4)))).toList)) ∧ Below w.heap.size w w' := by
  have hs' : (s.extract 0 (s.size - 4)).size ≤ maxLen := by unfold maxLen; simp; omega
  have he : ((s.size : Int) - 4).toNat = s.size - 4 := by omega
  go_enter Try.func15, Try.ntmps15
  go_wp2
  go_region_with (first | (go_at_call 9; refine (of_any _ _ hs').mono ?_; rintro e w' ⟨rfl, rfl⟩) | (go_at_call 20; refine (sumBytes_any _ _).mono ?_; rintro e w' ⟨rfl, hb⟩))
  all_goals
    go_wp2
    go_ret
    exact ⟨rfl, ((Below.refl _ _).drew).trans hb⟩

theorem ok_any (s : ByteArray) (w : World) (hs : s.size ≤ 140737488351232) :
    Calls Try.prog 15 #[.string s] w fun e w' => e = .returned (.bool (Crc.okL s.data.toList)) ∧ Below w.heap.size w w' := by
  rcases Nat.lt_or_ge s.size 4 with h | h
  · rw [Crc.ok_of_short s h]; exact ok_short s w h
  · rw [← Crc.ok_of_long s h]; exact ok_long s w h hs

end Go.Proofs.Ytbkhenooimjcfaa
