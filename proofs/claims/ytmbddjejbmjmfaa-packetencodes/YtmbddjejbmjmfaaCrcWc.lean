/-
  What the code's Ok returns: whether a text has four bytes at least, and its last four are the sum of what is ahead. Of the memory that was there nothing turns.
  Condition: a text has at most as many bytes as any text that can be read.
-/
import Derived.Test.YtmbddjejbmjmfaaCrcWb
import Derived.Deep.QuietTactic
import Derived.BigQuiet
import Derived.Lib.QuietBelow
namespace Go.Proofs.Ytmbddjejbmjmfaa
set_option maxRecDepth 10000
open Go.RowKit Go.Sort

set_option maxHeartbeats 400000 in
theorem ok_short (s : ByteArray) (w : World) (hs : s.size < 4) :
    Calls Try.prog 26 #[.string s] w fun e w' => e = .returned (.bool false) ∧ Below w.heap.size w w' := by
  go_enter Try.func26, Try.ntmps26
  go_wp2
  go_ret
  exact ⟨rfl, Below.refl _ _⟩

set_option maxHeartbeats 400000 in
theorem ok_long (s : ByteArray) (w : World) (hs4 : 4 ≤ s.size) (hs : s.size ≤ 140737488355328) :
    Calls Try.prog 26 #[.string s] w fun e w' => e = .returned (.bool ((s.extract (s.size - 4) s.size).toList == (Crc.four (Crc.sum (s.data.toList.take (s.size - 4)))).toList)) ∧ Below w.heap.size w w' := by
  have hs' : (s.extract 0 (s.size - 4)).size ≤ maxLen := by unfold maxLen; simp; omega
  have he : ((s.size : Int) - 4).toNat = s.size - 4 := by omega
  have cO : ∀ d os, Calls Try.prog 36 #[.string (s.extract 0 (s.size - 4))] (grow (redrawn w d) os) fun e w'' => e = .returned (.int .u32 ((Crc.sum (s.data.toList.take (s.size - 4))).toNat : Int)) ∧ ∃ p : Regrown, w'' = grow (redrawn w p.d) p.os := fun d os => Calls.regrown_of ((of_any _ _ hs').mono fun e w' ⟨he, hw⟩ => ⟨by rw [he]; simp, by rw [hw]; exact Below.refl _ _⟩)
  have cF : ∀ d os, Calls Try.prog 35 #[.int .u32 ((Crc.sum (s.data.toList.take (s.size - 4))).toNat : Int)] (grow (redrawn w d) os) fun e w'' => e = .returned (.string (Crc.four (Crc.sum (s.data.toList.take (s.size - 4))))) ∧ ∃ p : Regrown, w'' = grow (redrawn w p.d) p.os := fun d os => Calls.regrown_of (sumBytes_any _ _)
  go_enter Try.func26, Try.ntmps26
  go_wp2
  refine wp_region_quiet_below (by kernel_rfl) (by kernel_rfl) ?_
  repeat (any_goals (first | go_big_quiet_step (first | exact cO _ _ | exact cF _ _) | quiet_step (first | exact cO _ _ | exact cF _ _)))
  refine wpQuiet_nil ?_
  intro _ hw'
  obtain ⟨⟨dq, osq⟩, hw''⟩ := hw'
  subst hw''
  go_wp2
  go_ret
  exact ⟨rfl, below_regrown w dq osq⟩

theorem ok_any (s : ByteArray) (w : World) (hs : s.size ≤ 140737488355328) :
    Calls Try.prog 26 #[.string s] w fun e w' => e = .returned (.bool (Crc.okL s.data.toList)) ∧ Below w.heap.size w w' := by
  rcases Nat.lt_or_ge s.size 4 with h | h
  · rw [Crc.ok_of_short s h]; exact ok_short s w h
  · rw [← Crc.ok_of_long s h]; exact ok_long s w h hs

end Go.Proofs.Ytmbddjejbmjmfaa
