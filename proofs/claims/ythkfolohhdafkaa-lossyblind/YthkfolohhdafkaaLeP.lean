/-
  Letters whose texts are others: which one is picked, and where all others stand then, is the same, as plain answers.
  No condition; nothing of the program is named here.
-/
import Derived.Test.YthkfolohhdafkaaLeM
namespace Go.Proofs.Ythkfolohhdafkaa
set_option maxRecDepth 10000
open Go.RowKit Go.Sort

def Le.key (x : Le) : Int × Int := (x.fr, x.u)
def Keyed (L M : List Le) : Prop := L.map Le.key = M.map Le.key

theorem Keyed.len {L M : List Le} (h : Keyed L M) : L.length = M.length := by
  have := congrArg List.length h
  simpa using this
theorem Keyed.at {L M : List Le} (h : Keyed L M) (i : Nat) : (L[i]?).map Le.key = (M[i]?).map Le.key := by
  have := congrArg (·[i]?) h
  simpa using this
theorem any_key (f u : Int) (o : Option Le) : o.any (fitB f u) = (o.map Le.key).any (fun k => k.1 == f && k.2 == u) := by cases o <;> rfl
theorem Keyed.plc {L M : List Le} (h : Keyed L M) (f u : Int) : plc f u L = plc f u M := by
  unfold Proofs.Ythkfolohhdafkaa.plc plcTo
  rw [h.len]
  congr 1
  funext i
  rw [any_key, any_key, h.at i]
theorem Keyed.pick {L M : List Le} (h : Keyed L M) (f u ix : Int) : pickL f u ix M = pickL f u ix L := by unfold pickL; rw [h.plc]
theorem Keyed.left {L M : List Le} (h : Keyed L M) (f u ix : Int) : Keyed (leftL f u ix L) (leftL f u ix M) := by
  unfold leftL
  rw [h.pick f u ix]
  cases pickL f u ix L with
  | none => exact h
  | some p =>
    unfold Keyed at *
    simp only [List.map_append, List.map_take, List.map_drop, h]
theorem Keyed.got {L M : List Le} (h : Keyed L M) (f u ix : Int) : (gotL f u ix L).key = (gotL f u ix M).key := by
  unfold gotL
  rw [h.pick f u ix]
  cases pickL f u ix L with
  | none => rfl
  | some p =>
    have := h.at p
    simp only [List.getD]
    cases h1 : L[p]? with
    | none => cases h2 : M[p]? with
      | none => rfl
      | some y => rw [h1, h2] at this; simp at this
    | some x => cases h2 : M[p]? with
      | none => rw [h1, h2] at this; simp at this
      | some y => rw [h1, h2] at this; simpa using this
theorem Keyed.is {L M : List Le} (h : Keyed L M) (f u ix : Int) : isL f u ix M = isL f u ix L := by unfold isL; rw [h.pick f u ix]
theorem Keyed.two {L M : List Le} (h : Keyed L M) (i : Nat) (x y : Le) (hx : L[i]? = some x) (hy : M[i]? = some y) : x.fr = y.fr ∧ x.u = y.u := by
  have := h.at i
  rw [hx, hy] at this
  simpa [Le.key] using this

/- The first j with other texts. -/
def blnE (X : List ByteArray) (j : Nat) (x : Le) : Le := ⟨x.fr, x.u, X.getD j ⟨#[]⟩, x.b⟩
def blnL (L : List Le) (X : List ByteArray) (j : Nat) : List Le := L.mapIdx fun i x => if i < j then blnE X i x else x
theorem blnL_len (L : List Le) (X : List ByteArray) (j : Nat) : (blnL L X j).length = L.length := by simp [blnL]
theorem blnL_zero (L : List Le) (X : List ByteArray) : blnL L X 0 = L := by
  apply List.ext_getElem?
  intro i
  simp [blnL, List.getElem?_mapIdx]
theorem blnL_at (L : List Le) (X : List ByteArray) (j : Nat) (x : Le) (hx : L[j]? = some x) : (blnL L X j)[j]? = some x := by
  simp [blnL, List.getElem?_mapIdx, hx]
theorem blnL_set (L : List Le) (X : List ByteArray) (j : Nat) (x : Le) (hx : L[j]? = some x) : blnL L X (j + 1) = (blnL L X j).set j (blnE X j x) := by
  obtain ⟨hj, he⟩ := List.getElem?_eq_some_iff.1 hx
  apply List.ext_getElem?
  intro i
  rw [List.getElem?_set]
  by_cases h : j = i
  · subst h
    simp [blnL, hj, he]
  · rw [if_neg h]
    simp only [blnL, List.getElem?_mapIdx]
    congr 1
    funext x
    by_cases h2 : i < j
    · rw [if_pos h2, if_pos (by omega)]
    · rw [if_neg h2, if_neg (by omega)]
theorem blnL_keyed (L : List Le) (X : List ByteArray) (j : Nat) : Keyed L (blnL L X j) := by
  unfold Keyed
  apply List.ext_getElem?
  intro i
  simp only [List.getElem?_map, blnL, List.getElem?_mapIdx, Option.map_map]
  congr 1
  funext x
  simp only [Function.comp_apply]
  split <;> rfl

end Go.Proofs.Ythkfolohhdafkaa
