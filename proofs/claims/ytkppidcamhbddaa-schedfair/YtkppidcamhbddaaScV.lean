/-
  So many turns as there are sessions: how often a session is not above the one ahead, counted from the left.
  No condition.
-/
import Derived.Test.YtkppidcamhbddaaScP
namespace Go.Proofs.Ytkppidcamhbddaa
set_option maxRecDepth 10000
open Go.RowKit Go.Sort
set_option linter.unusedVariables false

/- The one ahead of place j. -/
def atL (l : Nat) (A : List En) (j : Nat) : Nat := (((A.take j).map En.se).getLast?).getD l
def dnL (l : Nat) (A : List En) (j : Nat) : Nat := downS l ((A.take j).map En.se)
theorem downS_snoc : ∀ (a : Nat) (M : List Nat) (s : Nat), downS a (M ++ [s]) = downS a M + (if s ≤ (M.getLast?).getD a then 1 else 0)
  | a, [], s => by
    show (if s ≤ a then 1 else 0) + 0 = 0 + _
    rw [Nat.add_zero, Nat.zero_add]
    rfl
  | a, x :: M, s => by
    rw [List.cons_append]
    show (if x ≤ a then 1 else 0) + downS x (M ++ [s]) = (if x ≤ a then 1 else 0) + downS x M + _
    rw [downS_snoc x M s, Nat.add_assoc]
    congr 2
    cases M with
    | nil => rfl
    | cons y Y => rw [List.getLast?_cons_cons, lastD y x a]
theorem at_next (l : Nat) (A : List En) (j : Nat) (x : En) (h : A[j]? = some x) : atL l A (j + 1) = x.se := by
  unfold atL
  rw [List.take_add_one, h, List.map_append]
  simp
theorem dn_next (l : Nat) (A : List En) (j : Nat) (x : En) (h : A[j]? = some x) : dnL l A (j + 1) = dnL l A j + (if x.se ≤ atL l A j then 1 else 0) := by
  unfold dnL atL
  rw [List.take_add_one, h, List.map_append]
  exact downS_snoc l _ x.se
theorem dn_le (l : Nat) (A : List En) : ∀ j, dnL l A j ≤ j
  | 0 => by simp [dnL, downS]
  | j + 1 => by
    cases h : A[j]? with
    | none =>
      have e : A.take (j + 1) = A.take j := by rw [List.take_add_one, h]; simp
      have := dn_le l A j
      unfold dnL at this ⊢
      rw [e]
      omega
    | some x =>
      rw [dn_next l A j x h]
      have := dn_le l A j
      split <;> omega

/- What the turns of all sessions are, as the program's law asks. -/
theorem fair_all (L : List En) (l : Nat) (hc : (sessS L).length ≤ 16) : ∀ A R m, fillS (manyS ((sessS L).length : Int)) L l = (A, R, m) →
    A.length = (sessS L).length ∧ R.length + (sessS L).length = L.length ∧ (∀ s, s ∈ sessS L → (entS s A).length = 1) ∧ (∀ x, A.getLast? = some x → m = x.se) ∧ dnL l A A.length ≤ 1 := by
  intro A R m h
  rw [show manyS ((sessS L).length : Int) = (sessS L).length by unfold manyS; omega] at h
  have h1 := fillS_lens (sessS L).length L l
  have h2 := fillS_all L l
  have h3 := fun s hs => once_all L l (s := s) hs
  have h4 := fillS_last (sessS L).length L l
  have h5 := sess_len L
  rw [h] at h1 h2 h3 h4
  simp only at h1 h2 h3 h4
  refine ⟨by omega, by omega, h3, fun x hx => ?_, ?_⟩
  · rw [h4, List.getLast?_map, hx]
    rfl
  · unfold dnL
    rw [List.take_of_length_le (Nat.le_refl _), h2]
    exact down_all L l

end Go.Proofs.Ytkppidcamhbddaa
