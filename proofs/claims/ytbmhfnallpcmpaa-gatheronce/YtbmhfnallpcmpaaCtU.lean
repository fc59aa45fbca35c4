/-
  What some have received, together, and whether one has no more than another one: plain answers.
  No condition.
-/
import Derived.Test.YtbmhfnallpcmpaaRd
namespace Go.Proofs.Ytbmhfnallpcmpaa
set_option maxRecDepth 10000
open Go.RowKit Go.Sort

/- The greatest counts of all. -/
def maxC (a b : Nat → Nat) : Nat → Nat := fun i => max (a i) (b i)
def unionL (L : List (Nat → Nat)) : Nat → Nat := L.foldl maxC noMb
theorem unionL_take (L : List (Nat → Nat)) (j : Nat) (c : Nat → Nat) (h : L[j]? = some c) : unionL (L.take (j + 1)) = maxC (unionL (L.take j)) c := by
  rw [List.take_add_one, h]
  simp [unionL, List.foldl_append]
def maxTo (u c : Nat → Nat) (j : Nat) : Nat → Nat := fun i => if i < j then max (u i) (c i) else u i
theorem maxTo_zero (u c : Nat → Nat) : maxTo u c 0 = u := by funext i; simp [maxTo]
theorem maxTo_at (u c : Nat → Nat) (j : Nat) : maxTo u c j j = u j := by simp [maxTo]
theorem maxTo_full (u c : Nat → Nat) : mbc (maxTo u c 8) = mbc (maxC u c) := mbc_ext fun i hi => by simp [maxTo, maxC, hi]
theorem maxTo_set (u c : Nat → Nat) (j : Nat) (h : j < 8) (v : Nat) (hv : v = max (u j) (c j)) : (mbc (maxTo u c j)).setIfInBounds j (.int .u32 (v : Int)) = mbc (maxTo u c (j + 1)) := by
  rw [mbc_set _ j v h]
  refine mbc_ext fun i _ => ?_
  simp only [maxTo]
  by_cases e : i = j
  · subst e
    rw [if_pos rfl, if_pos (by omega), hv]
  · by_cases l : i < j
    · simp [e, l, show i < j + 1 by omega]
    · simp [e, l, show ¬ i < j + 1 by omega]
theorem maxTo_skip (u c : Nat → Nat) (j : Nat) (hv : c j ≤ u j) : mbc (maxTo u c j) = mbc (maxTo u c (j + 1)) := by
  refine mbc_ext fun i _ => ?_
  simp only [maxTo]
  by_cases e : i = j
  · subst e
    rw [if_neg (by omega), if_pos (by omega), Nat.max_eq_left hv]
  · by_cases l : i < j
    · simp [l, show i < j + 1 by omega]
    · simp [l, show ¬ i < j + 1 by omega]

def withTo (a b : Nat → Nat) (j : Nat) : Bool := (List.range j).all fun i => decide (a i ≤ b i)
def withB (a b : Nat → Nat) : Bool := withTo a b 8
theorem withTo_zero (a b : Nat → Nat) : withTo a b 0 = true := rfl
theorem withTo_iff (a b : Nat → Nat) (j : Nat) : withTo a b j = true ↔ ∀ i, i < j → a i ≤ b i := by simp [withTo, List.all_eq_true]
theorem withTo_step (a b : Nat → Nat) (j : Nat) (h : withTo a b j = true) (hj : a j ≤ b j) : withTo a b (j + 1) = true := by
  rw [withTo_iff] at *
  intro i hi
  by_cases e : i = j
  · rw [e]; exact hj
  · exact h i (by omega)
theorem withB_iff (a b : Nat → Nat) : withB a b = true ↔ ∀ i, i < 8 → a i ≤ b i := withTo_iff a b 8
theorem withB_not (a b : Nat → Nat) (j : Nat) (hj : j < 8) (h : ¬ a j ≤ b j) : withB a b = false := by
  rw [Bool.eq_false_iff]
  intro hw
  exact h ((withB_iff a b).1 hw j hj)

end Go.Proofs.Ytbmhfnallpcmpaa
