/-
  What May asks of a table, place by place; where a member comes in.
  No condition.
-/
import Derived.Test.YthkomehnhadmlaaGrM
namespace Go.Proofs.Ythkomehnhadmlaa
set_option maxRecDepth 10000
open Go.RowKit Go.Sort
set_option linter.unusedVariables false
set_option linter.unusedSimpArgs false

def okM (L : List Mr) : Nat → Mr → Bool
  | 0, x => rgtM x
  | i + 1, x => rgtM x && (L[i]?.elim true fun y => lsM y x)
def okMTo (L : List Mr) (n : Nat) : Bool := (List.range n).all fun j => L[j]?.elim true (okM L j)
def mayMB (L : List Mr) : Bool := okMTo L L.length
theorem okMTo_zero (L : List Mr) : okMTo L 0 = true := rfl
theorem okMTo_succ (L : List Mr) (j : Nat) (x : Mr) (hx : L[j]? = some x) : okMTo L (j + 1) = (okMTo L j && okM L j x) := by
  unfold okMTo
  rw [List.range_succ, List.all_append]
  simp [hx]
theorem okMTo_no (L : List Mr) (j : Nat) (x : Mr) (hx : L[j]? = some x) (h : okM L j x = false) : okMTo L L.length = false := by
  unfold okMTo
  rw [List.all_eq_false]
  refine ⟨j, List.mem_range.2 (List.getElem?_eq_some_iff.1 hx).1, ?_⟩
  rw [hx]
  simp [h]
theorem okM_zero (L : List Mr) (x : Mr) : okM L 0 x = rgtM x := rfl
theorem okM_some (L : List Mr) (i : Nat) (x y : Mr) (hy : L[i]? = some y) : okM L (i + 1) x = (rgtM x && lsM y x) := by
  show (rgtM x && (L[i]?.elim true fun y => lsM y x)) = _
  rw [hy]
  rfl
theorem mayMB_iff (L : List Mr) : mayMB L = true ↔ MayM L := by
  unfold mayMB okMTo MayM
  rw [List.all_eq_true]
  constructor
  · intro h
    have h1 : ∀ j x, L[j]? = some x → okM L j x = true := fun j x hx => by
      have := h j (List.mem_range.2 (List.getElem?_eq_some_iff.1 hx).1)
      rw [hx] at this
      exact this
    have hr : ∀ j x, L[j]? = some x → rgtM x = true := fun j x hx => by
      have := h1 j x hx
      cases j with
      | zero => exact this
      | succ i =>
        unfold okM at this
        rw [Bool.and_eq_true] at this
        exact this.1
    have hs : ∀ j x y, L[j]? = some x → L[j + 1]? = some y → LsM x y := fun j x y hx hy => by
      have := h1 (j + 1) y hy
      rw [okM_some L j y x hx, Bool.and_eq_true] at this
      exact (lsM_iff x y).1 this.2
    refine ⟨fun x hx => ?_, ?_⟩
    · obtain ⟨j, hj⟩ := List.getElem?_of_mem hx
      exact hr j x hj
    · have key : ∀ d i x y, L[i]? = some x → L[i + d + 1]? = some y → LsM x y := by
        intro d
        induction d with
        | zero => exact fun i x y hx hy => hs i x y hx hy
        | succ d ih =>
          intro i x y hx hy
          have hlt := (List.getElem?_eq_some_iff.1 hy).1
          obtain ⟨z, hz⟩ : ∃ z, L[i + d + 1]? = some z := ⟨_, List.getElem?_eq_getElem (by omega)⟩
          exact (ih i x z hx hz).trans (hs (i + d + 1) z y hz hy)
      rw [List.pairwise_iff_getElem]
      intro i j hi hj hij
      have e : j = i + (j - i - 1) + 1 := by omega
      exact key (j - i - 1) i L[i] L[j] (List.getElem?_eq_getElem hi) (by rw [← e]; exact List.getElem?_eq_getElem hj)
  · rintro ⟨h1, h2⟩ j hj
    have hlt := List.mem_range.1 hj
    rw [List.getElem?_eq_getElem hlt]
    show okM L j L[j] = true
    rw [List.pairwise_iff_getElem] at h2
    cases j with
    | zero => exact h1 _ (List.getElem_mem _)
    | succ i =>
      rw [okM_some L i _ L[i] (List.getElem?_eq_getElem (by omega)), h1 _ (List.getElem_mem _), (lsM_iff _ _).2 (h2 i (i + 1) (by omega) hlt (by omega))]
      rfl
/- Where a member comes in. -/
theorem ins_at (m : Mr) : ∀ (L : List Mr) (j : Nat) (k : Mr), L[j]? = some k → lsM k m = false → (∀ k' ∈ L.take j, lsM k' m = true) → insM m L = L.take j ++ m :: L.drop j
  | [], j, k, h, _, _ => by simp at h
  | x :: L, 0, k, h, hk, _ => by
    simp at h
    subst h
    unfold insM
    rw [hk]
    rfl
  | x :: L, j + 1, k, h, hk, ha => by
    unfold insM
    rw [if_pos (ha x (by simp)), ins_at m L j k (by simpa using h) hk (fun k' h' => ha k' (by simp [h']))]
    rfl
theorem ins_end (m : Mr) : ∀ (L : List Mr), (∀ k' ∈ L, lsM k' m = true) → insM m L = L ++ [m]
  | [], _ => rfl
  | x :: L, ha => by
    unfold insM
    rw [if_pos (ha x (by simp)), ins_end m L (fun k' h' => ha k' (by simp [h']))]
    rfl

end Go.Proofs.Ythkomehnhadmlaa
