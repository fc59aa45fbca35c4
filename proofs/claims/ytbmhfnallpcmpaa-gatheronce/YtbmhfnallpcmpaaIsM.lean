/-
  Who is a member; whether a number is in a list of ints: what slices.Index and slices.Contains answer.
  No condition.
-/
import Derived.Test.YtbmhfnallpcmpaaLs
namespace Go.Proofs.Ytbmhfnallpcmpaa
set_option maxRecDepth 10000
open Go.RowKit Go.Sort

theorem mem_lst (m : Nat → Nat) (d : Nat) : d ∈ lst m ↔ d < 8 ∧ m d ≠ 0 := by simp [lst, lstTo]
theorem at_lst (m : Nat → Nat) (j d : Nat) (h : (lst m)[j]? = some d) : d < 8 ∧ m d ≠ 0 := (mem_lst m d).1 (List.mem_of_getElem? h)

def isM (m : Nat → Nat) (i : Int) : Bool := decide (0 ≤ i ∧ i < 8 ∧ m i.toNat ≠ 0)
theorem isM_nat (m : Nat → Nat) (d : Nat) : isM m (d : Int) = true ↔ d ∈ lst m := by
  unfold isM
  rw [decide_eq_true_eq, mem_lst, Int.toNat_natCast]
  constructor
  · rintro ⟨_, h1, h2⟩; exact ⟨by omega, h2⟩
  · rintro ⟨h1, h2⟩; exact ⟨by omega, by omega, h2⟩
theorem isM_iff (m : Nat → Nat) (i : Int) : isM m i = true ↔ ∃ d : Nat, i = (d : Int) ∧ d ∈ lst m := by
  constructor
  · intro h
    have h' := h
    unfold isM at h'
    rw [decide_eq_true_eq] at h'
    obtain ⟨d, rfl⟩ : ∃ d : Nat, i = (d : Int) := ⟨i.toNat, by omega⟩
    exact ⟨d, rfl, (isM_nat m d).1 h⟩
  · rintro ⟨d, rfl, h⟩
    exact (isM_nat m d).2 h

/- Is a number in a list? -/
def hasL (L : List Nat) (v : Int) : Bool := L.any fun d => decide ((d : Int) = v)
theorem hasL_isM (m : Nat → Nat) (v : Int) : hasL (lst m) v = isM m v := by
  rw [Bool.eq_iff_iff, isM_iff, hasL, List.any_eq_true]
  constructor
  · rintro ⟨d, h1, h2⟩
    exact ⟨d, (of_decide_eq_true h2).symm, h1⟩
  · rintro ⟨d, rfl, h⟩
    exact ⟨d, h, by simp⟩
def Found (L : List Nat) (v : Int) (e : Ending) : Prop := ∃ k : Int, e = .returned (.int .i64 k) ∧ decide (0 ≤ k) = hasL L v

end Go.Proofs.Ytbmhfnallpcmpaa
