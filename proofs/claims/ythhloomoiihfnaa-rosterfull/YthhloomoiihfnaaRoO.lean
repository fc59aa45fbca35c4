/-
  Rosters: as many as are opened from nothing on, and one of four closed.
  No condition.
-/
import Derived.Test.YthhloomoiihfnaaRoN
namespace Go.Proofs.Ythhloomoiihfnaa
set_option maxRecDepth 10000
open Go.RowKit Go.Sort

def flL (k : Nat) : List Se := (List.range k).map fun i => ⟨i + 1, 0⟩
theorem fl_len (k : Nat) : (flL k).length = k := by simp [flL]
theorem fl_open (k : Nat) (h : k < 4) : opnE k (flL k) = 0 ∧ opnL k (flL k) = flL (k + 1) ∧ opnI k (flL k) = k + 1 := by
  match k, h with
  | 0, _ => exact ⟨rfl, rfl, rfl⟩
  | 1, _ => exact ⟨rfl, rfl, rfl⟩
  | 2, _ => exact ⟨rfl, rfl, rfl⟩
  | 3, _ => exact ⟨rfl, rfl, rfl⟩
theorem fl_full : opnE 4 (flL 4) = 161 ∧ opnL 4 (flL 4) = [] ∧ opnI 4 (flL 4) = 0 := ⟨rfl, rfl, rfl⟩
theorem fl_none (d : Nat) (h : ¬ (1 ≤ d ∧ d ≤ 4)) : clsE d (flL 4) = 162 ∧ clsL d (flL 4) = [] ∧ clsI 4 d (flL 4) = 0 := by
  have e : fstS d (flL 4) = none := by
    show [(⟨1, 0⟩ : Se), ⟨2, 0⟩, ⟨3, 0⟩, ⟨4, 0⟩].findIdx? (isI d) = none
    rw [List.findIdx?_eq_none_iff]
    intro x hx
    simp at hx
    rcases hx with rfl | rfl | rfl | rfl <;> (unfold isI; rw [decide_eq_false]; simp; omega)
  unfold clsE clsL clsI hasS
  rw [e]
  exact ⟨rfl, rfl, rfl⟩
theorem fl_some (d : Nat) (h : 1 ≤ d ∧ d ≤ 4) : clsE d (flL 4) = 0 ∧ clsI 4 d (flL 4) = 4 ∧ ∃ M, clsL d (flL 4) = M ∧ M.length = 3 ∧ opnE 4 M = 0 ∧ opnI 4 M = 5 ∧ ∃ K, opnL 4 M = K ∧ K.length = 4 ∧ opnE 5 K = 161 ∧ opnL 5 K = [] ∧ opnI 5 K = 0 ∧ hasS d K = false ∧ hasS 5 K = true := by
  match d, h with
  | 1, _ => exact ⟨rfl, rfl, _, rfl, rfl, rfl, rfl, _, rfl, rfl, rfl, rfl, rfl, rfl, rfl⟩
  | 2, _ => exact ⟨rfl, rfl, _, rfl, rfl, rfl, rfl, _, rfl, rfl, rfl, rfl, rfl, rfl, rfl⟩
  | 3, _ => exact ⟨rfl, rfl, _, rfl, rfl, rfl, rfl, _, rfl, rfl, rfl, rfl, rfl, rfl, rfl⟩
  | 4, _ => exact ⟨rfl, rfl, _, rfl, rfl, rfl, rfl, _, rfl, rfl, rfl, rfl, rfl, rfl, rfl⟩

end Go.Proofs.Ythhloomoiihfnaa
