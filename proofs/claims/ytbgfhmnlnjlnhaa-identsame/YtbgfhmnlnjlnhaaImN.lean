/-
  Who is in two members: whichever comes first, with themselves, three in any order, how many; lists of daemons rise.
  No condition.
-/
import Derived.Test.YtbgfhmnlnjlnhaaImM
namespace Go.Proofs.Ytbgfhmnlnjlnhaa
set_option maxRecDepth 10000
open Go.RowKit Go.Sort

theorem same_comm (a b : Nat → Nat) : sameM a b = sameM b a := by
  funext i
  unfold sameM
  by_cases h : a i = b i
  · rw [if_pos h, if_pos h.symm, h]
  · rw [if_neg h, if_neg (fun e => h e.symm)]
theorem same_self (a : Nat → Nat) : sameM a a = a := by
  funext i
  unfold sameM
  rw [if_pos rfl]
theorem same_assoc (a b c : Nat → Nat) : sameM (sameM a b) c = sameM a (sameM b c) := by
  funext i
  unfold sameM
  generalize a i = x
  generalize b i = y
  generalize c i = z
  repeat' split
  all_goals omega
theorem lst_eq (a : Nat → Nat) : (lst a).length = (List.range 8).countP (fun i => decide (a i ≠ 0)) := by
  rw [List.countP_eq_length_filter]
  rfl
theorem same_many (a b : Nat → Nat) : (lst (sameM a b)).length ≤ (lst a).length := by
  rw [lst_eq, lst_eq]
  apply List.countP_mono_left
  intro i _ h
  rw [decide_eq_true_eq] at h ⊢
  intro e
  apply h
  unfold sameM
  split
  · exact e
  · rfl

theorem lst_mem (m : Nat → Nat) (i d : Nat) (h : (lst m)[i]? = some d) : d < 8 ∧ m d ≠ 0 := by
  have hm := List.mem_of_getElem? h
  unfold lst lstTo at hm
  rw [List.mem_filter, List.mem_range, decide_eq_true_eq] at hm
  exact hm
theorem lst_rise (m : Nat → Nat) (i d e : Nat) (h : (lst m)[i]? = some d) (k : (lst m)[i + 1]? = some e) : d < e := by
  have hp : (lst m).Pairwise (· < ·) := List.Pairwise.filter _ List.pairwise_lt_range
  obtain ⟨h1, h2⟩ := List.getElem?_eq_some_iff.1 h
  obtain ⟨k1, k2⟩ := List.getElem?_eq_some_iff.1 k
  have := List.pairwise_iff_getElem.1 hp i (i + 1) h1 k1 (by omega)
  rw [h2, k2] at this
  exact this
theorem and7 (d : Nat) (h : d < 8) : bits BinOp.and IntKind.i64 (d : Int) 7 = (d : Int) := by
  obtain rfl | rfl | rfl | rfl | rfl | rfl | rfl | rfl : d = 0 ∨ d = 1 ∨ d = 2 ∨ d = 3 ∨ d = 4 ∨ d = 5 ∨ d = 6 ∨ d = 7 := by omega
  all_goals rfl

end Go.Proofs.Ytbgfhmnlnjlnhaa
