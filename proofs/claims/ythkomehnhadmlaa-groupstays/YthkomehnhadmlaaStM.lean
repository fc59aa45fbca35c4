/-
  What an entry does to a table: facts that the law GroupStays asks for.
  No condition.
-/
import Derived.Test.YthkomehnhadmlaaGrD
import Derived.WalkKit
import Derived.ProofKit
namespace Go.Proofs.Ythkomehnhadmlaa
open Go.Sort Go.ChangeShapes Go.WideShapes Go.ChangeAt Go.RowKit
set_option linter.unusedVariables false
set_option linter.unusedSimpArgs false
set_option maxRecDepth 10000

theorem app_len (k : Int) (x : Mr) (L : List Mr) : (appM k x L).length ≤ L.length + 1 := by
  unfold appM
  split
  · split
    · rw [ins_len]; exact Nat.le_refl _
    · exact Nat.le_trans (List.length_filter_le _ _) (Nat.le_succ _)
  · exact Nat.le_succ _
theorem app_again (k : Int) (x : Mr) (L : List Mr) : didM k x (appM k x L) = false ∧ appM k x (appM k x L) = appM k x L := by
  have key : didM k x (appM k x L) = false := by
    cases hd : didM k x L with
    | false =>
      have e : appM k x L = L := by unfold appM; rw [hd]; rfl
      rw [e, hd]
    | true =>
      have hd2 := hd
      unfold didM at hd2
      rw [Bool.and_eq_true, Bool.or_eq_true, Bool.and_eq_true, Bool.and_eq_true, decide_eq_true_eq, decide_eq_true_eq] at hd2
      obtain ⟨hr, h⟩ := hd2
      rcases h with ⟨rfl, h⟩ | ⟨rfl, h⟩
      · refine ((did_join (L := appM 2 x L) hr).1 ?_).1
        rw [hasM3_iff, mem_app]
        exact .inr ⟨rfl, hr, rfl⟩
      · refine ((did_leave (L := appM 3 x L) hr).1 ?_).1
        rw [Bool.eq_false_iff]
        intro h9
        rw [hasM3_iff, mem_app] at h9
        rcases h9 with h9 | h9
        · exact h9.2 ⟨rfl, hr, rfl⟩
        · exact absurd h9.2.2 (by decide)
  refine ⟨key, ?_⟩
  unfold appM
  unfold appM at key
  rw [key]
  rfl
theorem did_kind {k : Int} {x : Mr} {L : List Mr} (h : didM k x L = true) : rgtM x = true ∧ (k = 2 ∧ hasM3 x L = false ∨ k = 3 ∧ hasM3 x L = true) := by
  unfold didM at h
  rw [Bool.and_eq_true, Bool.or_eq_true, Bool.and_eq_true, Bool.and_eq_true, decide_eq_true_eq, decide_eq_true_eq] at h
  refine ⟨h.1, ?_⟩
  rcases h.2 with h | h
  · exact .inl ⟨h.1, by simpa using h.2⟩
  · exact .inr h
theorem has_after {k : Int} {x y : Mr} {L : List Mr} (hy : y ∈ L) (hne : y ≠ x) : hasM3 y (appM k x L) = true := by
  rw [hasM3_iff, mem_app]
  exact .inl ⟨hy, fun h => hne h.1⟩
theorem did_yes2 {x : Mr} {L : List Mr} (h : didM 2 x L = true) : hasM3 x (appM 2 x L) = true ∧ hasM3 x L = false ∧ (appM 2 x L).length = L.length + 1 := by
  obtain ⟨hr, h2⟩ := did_kind h
  rcases h2 with ⟨_, h2⟩ | ⟨h2, _⟩
  · refine ⟨?_, h2, ?_⟩
    · rw [hasM3_iff, mem_app]
      exact .inr ⟨rfl, hr, rfl⟩
    · rw [((did_join hr).2 h2).2, ins_len]
  · cases h2
theorem did_yes3 {x : Mr} {L : List Mr} (h : didM 3 x L = true) (hm : MayM L) : hasM3 x (appM 3 x L) = false ∧ hasM3 x L = true ∧ (appM 3 x L).length + 1 = L.length := by
  obtain ⟨hr, h2⟩ := did_kind h
  rcases h2 with ⟨h2, _⟩ | ⟨_, h2⟩
  · cases h2
  · refine ⟨?_, h2, ?_⟩
    · rw [Bool.eq_false_iff]
      intro h9
      rw [hasM3_iff, mem_app] at h9
      rcases h9 with h9 | h9
      · exact h9.2 ⟨rfl, hr, rfl⟩
      · exact absurd h9.2.2 (by decide)
    · rw [((did_leave hr).2 h2).2, out_len hm.2 ((hasM3_iff x L).1 h2)]
theorem did_none {k : Int} {x : Mr} {L : List Mr} (h : didM k x L = false) : appM k x L = L := by
  unfold appM
  rw [h]
  rfl

end Go.Proofs.Ythkomehnhadmlaa
