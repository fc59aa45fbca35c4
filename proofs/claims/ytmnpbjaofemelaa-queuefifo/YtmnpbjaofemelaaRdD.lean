/-
  One's position: what the code answers.
  Counts are such as a uint32 holds.
-/
import Derived.Test.YtmnpbjaofemelaaRdA
import Derived.Test.YtmnpbjaofemelaaRdM
namespace Go.Proofs.Ytmnpbjaofemelaa
set_option maxRecDepth 10000
open Go.RowKit Go.Sort

def fst (c : Nat → Nat) (q : Nat) (L : List Nat) : Option Nat := L.find? fun d => decide (c d = q)
theorem fst_at (c : Nat → Nat) (q : Nat) (L : List Nat) (j d : Nat) (h : L[j]? = some d) (h0 : ∀ e ∈ L.take j, c e ≠ q) (h1 : c d = q) : fst c q L = some d := by
  have e : L = L.take j ++ d :: L.drop (j + 1) := by
    have hj : j < L.length := (List.getElem?_eq_some_iff.1 h).1
    have h2 : L[j] = d := by rw [List.getElem?_eq_getElem hj] at h; injection h
    conv => lhs; rw [← List.take_append_drop j L, List.drop_eq_getElem_cons hj, h2]
  rw [fst, e, List.find?_append, List.find?_cons_of_pos (by simpa using h1)]
  rw [List.find?_eq_none.2 (fun x hx => by simpa using h0 x hx)]
  rfl
theorem fst_none (c : Nat → Nat) (q : Nat) (L : List Nat) (h0 : ∀ e ∈ L, c e ≠ q) : fst c q L = none := List.find?_eq_none.2 (fun x hx => by simpa using h0 x hx)
theorem posP_some (c m : Nat → Nat) (d : Nat) (h : fst c (leastC c m) (lst m) = some d) : posP c m = ⟨nxt (leastC c m), (d : Int), 0⟩ := by
  unfold posP
  unfold fst at h
  rw [h]
theorem posP_none (c m : Nat → Nat) (h : fst c (leastC c m) (lst m) = none) : posP c m = Pl.zero := by
  unfold posP
  unfold fst at h
  rw [h]
theorem nxt_lt {n : Nat} (h : n < 4294967295) : nxt n = n + 1 := if_pos h
theorem nxt_ge {n : Nat} (h : ¬ n < 4294967295) : nxt n = n := if_neg h

end Go.Proofs.Ytmnpbjaofemelaa
