/-
  Rosters that may be: what RosterStays asks of what Open, Close and Next answer.
  No condition.
-/
import Derived.Test.YthhloomoiihfnaaRoN
namespace Go.Proofs.Ythhloomoiihfnaa
set_option maxRecDepth 10000
open Go.RowKit Go.Sort

def OkO (n : Nat) (L : List Se) (e : Int) (i : Nat) (M : List Se) : Prop := (e = 0 ∧ mayS i M = true ∧ M.length = n + 1 ∧ ∀ (j : Nat) (s : Se), L[j]? = some s → M[j]? = some s) ∨ e = 161
def OkC (d : Nat) (L : List Se) (e : Int) (i : Nat) (M : List Se) : Prop := (e = 0 ∧ mayS i M = true ∧ hasS d M = false ∧ ∀ (j : Nat) (s : Se), L[j]? = some s → s.i ≠ d → hasS s.i M = true) ∨ e = 162
def OkN (n d : Nat) (L : List Se) (e : Int) (i : Nat) (M : List Se) : Prop := (e = 0 ∧ mayS i M = true ∧ M.length = n ∧ ∀ (j : Nat) (s : Se), L[j]? = some s → s.i ≠ d → M[j]? = some s) ∨ e = 162
theorem okO (l : Nat) (L : List Se) (h : mayS l L = true) : OkO L.length L (opnE l L) (opnI l L) (opnL l L) := by
  have hm := (mayS_iff l L).1 h
  by_cases h1 : 4 ≤ L.length ∨ 65535 ≤ l
  · right; exact if_pos h1
  · have e : opnE l L = 0 := if_neg h1
    left
    have e2 : opnL l L = L ++ [⟨l + 1, 0⟩] := by unfold opnL; rw [e, if_pos rfl]
    have e3 : opnI l L = l + 1 := by unfold opnI; rw [e, if_pos rfl]
    rw [e2, e3]
    refine ⟨e, (mayS_iff _ _).2 (may_open hm e), by simp, fun j s hj => ?_⟩
    rw [List.getElem?_append_left (List.getElem?_eq_some_iff.1 hj).1]
    exact hj
theorem okC (l d : Nat) (L : List Se) (h : mayS l L = true) : OkC d L (clsE d L) (clsI l d L) (clsL d L) := by
  have hm := (mayS_iff l L).1 h
  rcases fstS_cases d L with ⟨h1, _⟩ | ⟨i, x, h1, h2, h3⟩
  · right
    unfold clsE hasS
    rw [h1]; rfl
  · left
    have h0 : hasS d L = true := by unfold hasS; rw [h1]; rfl
    have e : clsE d L = 0 := by unfold clsE; rw [h0]; rfl
    have e2 : clsL d L = L.eraseIdx i := by unfold clsL; rw [h1]
    have e3 : clsI l d L = l := by unfold clsI; rw [h0]; rfl
    obtain ⟨c1, c2, c3⟩ := may_close hm h1
    rw [e2, e3]
    exact ⟨e, (mayS_iff _ _).2 c1, c2, fun j s hj hs => c3 s (List.mem_of_getElem? hj) hs⟩
theorem okN (l d : Nat) (L : List Se) (h : mayS l L = true) : OkN L.length d L (sndE d L) (sndI l d L) (sndL d L) := by
  have hm := (mayS_iff l L).1 h
  rcases fstS_cases d L with ⟨h1, _⟩ | ⟨i, x, h1, h2, h3⟩
  · right
    have : sndS d L = none := by unfold sndS; rw [h1]
    unfold sndE
    rw [this]; rfl
  · have hs : sndS d L = if 4294967295 ≤ x.n then none else some i := by unfold sndS; simp only [h1, h2]
    by_cases hx : 4294967295 ≤ x.n
    · right
      rw [if_pos hx] at hs
      unfold sndE
      rw [hs]; rfl
    · left
      rw [if_neg hx] at hs
      have e : sndE d L = 0 := by unfold sndE; rw [hs]; rfl
      have e2 : sndL d L = L.set i ⟨x.i, x.n + 1⟩ := by unfold sndL; simp only [hs, h2]
      have e3 : sndI l d L = l := by unfold sndI; rw [hs]; rfl
      rw [e2, e3]
      refine ⟨e, (mayS_iff _ _).2 (may_send hm h2 (by omega)), by rw [List.length_set], fun j s hj hne => ?_⟩
      have hij : i ≠ j := by
        rintro rfl
        rw [h2] at hj
        cases hj
        exact hne h3
      rw [List.getElem?_set_ne hij]
      exact hj

end Go.Proofs.Ythhloomoiihfnaa
