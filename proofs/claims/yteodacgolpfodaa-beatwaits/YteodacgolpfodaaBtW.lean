/-
  A clock at which one daemon was heard, so many ticks later; whom it reaches.
  No condition.
-/
import Derived.Test.YteodacgolpfodaaBtP
namespace Go.Proofs.Yteodacgolpfodaa
set_option maxRecDepth 10000
open Go.RowKit Go.Sort

def cN (b : Bt) (k n t : Nat) : Bt := ⟨b.now + t, put8 b.hd k b.now, put8 b.inc k n⟩
theorem cN_zero {b : Bt} {k n : Nat} (h : hearsB b (k : Int) n = true) : hearB b (k : Int) n = cN b k n 0 := by rw [hearB_yes h]; rfl
theorem cN_tick (b : Bt) (k n t : Nat) (h : b.now + t < 4294967295) : tickB (cN b k n t) = cN b k n (t + 1) := by
  have e : (if (cN b k n t).now < 4294967295 then (cN b k n t).now + 1 else (cN b k n t).now) = b.now + (t + 1) := if_pos h
  simp only [tickB, e]
  rfl
theorem cN_others (b : Bt) (k n wt j : Nat) (h : j ≠ k) : rchB (cN b k n 0) (-1) 0 wt j = rchB b (-1) 0 wt j := by
  simp only [rchB, cN, put8_ne _ _ _ _ h, Nat.add_zero]
theorem cN_late (b : Bt) (k n t wt : Nat) (hn : b.now ≠ 0) (h : t ≤ wt) : rchB (cN b k n t) (-1) 0 wt k = n := by
  have e : lateB (b.now + t) b.now wt = true := by simp only [lateB, decide_eq_true_eq]; omega
  simp only [rchB, cN, put8_same, e, if_true]
  rw [if_neg (by omega)]
theorem cN_gone (b : Bt) (k n t wt : Nat) (h : wt < t) : rchB (cN b k n t) (-1) 0 wt k = 0 := by
  have e : lateB (b.now + t) b.now wt = false := by simp only [lateB, decide_eq_false_iff_not]; omega
  simp only [rchB, cN, put8_same, e]
  rw [if_neg (by omega)]
  rfl

end Go.Proofs.Yteodacgolpfodaa
