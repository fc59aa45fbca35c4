/-
  What is told of frames that were received: which ones are too old, which ones are taken, what is kept and counted then; which one is found.
  No condition.
-/
import Derived.Test.YtbmhfnallpcmpaaIsM
import Derived.Test.YtbmhfnallpcmpaaKt
namespace Go.Proofs.Ytbmhfnallpcmpaa
set_option maxRecDepth 10000
open Go.RowKit Go.Sort

def oldB (x k : Kt) : Bool := decide (k.fr = x.fr ∧ k.rd + 3 ≤ x.rd)
def isB (i : Int) (r : Nat) (k : Kt) : Bool := decide (k.fr = i ∧ k.rd = r)
def takesB (c m : Nat → Nat) (x : Kt) : Bool := isM m x.fr && decide (x.rd = c x.fr.toNat + 1)
def young (x : Kt) (L : List Kt) : List Kt := L.filter fun k => !oldB x k
def takeL (L : List Kt) (x : Kt) : List Kt := young x L ++ [x]
def takeC (c : Nat → Nat) (x : Kt) : Nat → Nat := put8 c x.fr.toNat x.rd

theorem young_le (x : Kt) (L : List Kt) : (young x L).length ≤ L.length := List.length_filter_le _ _
theorem takeL_len (x : Kt) (L : List Kt) : (takeL L x).length ≤ L.length + 1 := by
  have := young_le x L
  simp only [takeL, List.length_append, List.length_cons, List.length_nil]
  omega
theorem young_yes (x k : Kt) (L : List Kt) (j : Nat) (h : L[j]? = some k) (ho : oldB x k = true) : young x (L.take (j + 1)) = young x (L.take j) := by
  simp [young, List.take_add_one, h, ho]
theorem young_no (x k : Kt) (L : List Kt) (j : Nat) (h : L[j]? = some k) (ho : oldB x k = false) : young x (L.take (j + 1)) = young x (L.take j) ++ [k] := by
  simp [young, List.take_add_one, h, ho]

theorem takesB_iff (c m : Nat → Nat) (x : Kt) : takesB c m x = true ↔ ∃ d : Nat, x.fr = (d : Int) ∧ d < 8 ∧ m d ≠ 0 ∧ x.rd = c d + 1 := by
  unfold takesB
  rw [Bool.and_eq_true, isM_iff, decide_eq_true_eq]
  constructor
  · rintro ⟨⟨d, e, h⟩, h2⟩
    obtain ⟨h3, h4⟩ := (mem_lst m d).1 h
    rw [e, Int.toNat_natCast] at h2
    exact ⟨d, e, h3, h4, h2⟩
  · rintro ⟨d, e, h3, h4, h2⟩
    refine ⟨⟨d, e, (mem_lst m d).2 ⟨h3, h4⟩⟩, ?_⟩
    rw [e, Int.toNat_natCast]
    exact h2

end Go.Proofs.Ytbmhfnallpcmpaa
