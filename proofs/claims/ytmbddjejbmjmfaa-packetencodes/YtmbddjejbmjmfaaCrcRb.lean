/-
  What the document's answer Ok returns: the same as the code's. Of the memory that was there nothing turns.
  Condition: a text has at most as many bytes as any text that can be read.
-/
import Derived.Test.YtmbddjejbmjmfaaCrcRa
import Derived.Deep.RegionWith
import Derived.Deep.QuietTactic
import Derived.BigQuiet
import Derived.Lib.QuietBelow
namespace Go.Proofs.Ytmbddjejbmjmfaa
set_option maxRecDepth 10000
open Go.RowKit Go.Sort

theorem below_drawsN (B : Nat) (w : World) (n : Nat) : Below B w (w.drewN n) := ⟨rfl, rfl, rfl, Nat.le_refl _, fun _ _ => rfl⟩

set_option maxHeartbeats 400000 in
theorem rok_short (s : ByteArray) (w : World) (hs : s.size < 4) :
    Calls Try.prog 28 #[.string s] w fun e w' => e = .returned (.bool false) ∧ Below w.heap.size w w' := by
  have hd : decide (4 ≤ (s.size : Int)) = false := by simp; omega
  go_enter Try.func28, Try.ntmps28
  go_wp2
  go_quiet (fail)
  go_wp2
  go_ret
  exact ⟨rfl, below_drawsN _ _ _⟩

set_option maxHeartbeats 1000000 in
theorem rok_long (s : ByteArray) (w : World) (hs4 : 4 ≤ s.size) (hs : s.size ≤ 140737488351232) :
    Calls Try.prog 28 #[.string s] w fun e w' => e = .returned (.bool ((s.extract (s.size - 4) s.size).toList == (Crc.four (Crc.sum (s.data.toList.take (s.size - 4)))).toList)) ∧ Below w.heap.size w w' := by
  have hs' : (s.extract 0 (s.size - 4)).size ≤ maxLen := by unfold maxLen; simp; omega
  have he : ((s.size : Int) - 4).toNat = s.size - 4 := by omega
  have hd : decide (4 ≤ (s.size : Int)) = true := by simp; omega
  have cO : ∀ d os, Calls Try.prog 34 #[.string (s.extract 0 (s.size - 4))] (grow (redrawn w d) os) fun e w'' => e = .returned (.int .u32 ((Crc.sum (s.data.toList.take (s.size - 4))).toNat : Int)) ∧ ∃ p : Regrown, w'' = grow (redrawn w p.d) p.os := fun d os => Calls.regrown_of ((rof_any _ _ hs').mono fun e w' ⟨he, hw⟩ => ⟨by rw [he]; simp, by rw [hw]; exact Below.refl _ _⟩)
  have cF : ∀ d os, Calls Try.prog 33 #[.int .u32 ((Crc.sum (s.data.toList.take (s.size - 4))).toNat : Int)] (grow (redrawn w d) os) fun e w'' => e = .returned (.string (Crc.four (Crc.sum (s.data.toList.take (s.size - 4))))) ∧ ∃ p : Regrown, w'' = grow (redrawn w p.d) p.os := fun d os => Calls.regrown_of (rfour_any _ _)
  go_enter Try.func28, Try.ntmps28
  go_wp2
  refine wp_region_quiet_below (by kernel_rfl) (by kernel_rfl) ?_
  repeat (any_goals (first | go_big_quiet_step (first | exact cO _ _ | exact cF _ _) | quiet_step (first | exact cO _ _ | exact cF _ _)))
  refine wpQuiet_nil ?_
  intro _ hw'
  obtain ⟨⟨dq, osq⟩, hw''⟩ := hw'
  subst hw''
  go_wp2
  go_ret
  exact ⟨rfl, below_regrown w dq osq⟩

theorem rok_any (s : ByteArray) (w : World) (hs : s.size ≤ 140737488351232) :
    Calls Try.prog 28 #[.string s] w fun e w' => e = .returned (.bool (Crc.okL s.data.toList)) ∧ Below w.heap.size w w' := by
  rcases Nat.lt_or_ge s.size 4 with h | h
  · rw [Crc.ok_of_short s h]; exact rok_short s w h
  · rw [← Crc.ok_of_long s h]; exact rok_long s w h hs

end Go.Proofs.Ytmbddjejbmjmfaa
