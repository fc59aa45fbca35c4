/-
  A letter that is turned: which one is another then, in which of its bytes, and that it stays if it is turned again, as plain answers.
  No condition; nothing of the program is named here.
-/
import Derived.Test.YthkfolohhdafkaaLeP
namespace Go.Proofs.Ythkfolohhdafkaa
set_option maxRecDepth 10000
open Go.RowKit Go.Sort

theorem trn_len (f u ix a : Int) (m : Nat) (L : List Le) : (trnL f u ix a m L).length = L.length := by
  unfold trnL
  cases pickL f u ix L with
  | none => rfl
  | some p =>
    show (if _ then _ else _ : List Le).length = _
    split
    · rfl
    · rw [List.length_set]
theorem trn_small (f u ix a : Int) (m : Nat) (L : List Le) (h : ∀ x ∈ L, x.small) : ∀ x ∈ trnL f u ix a m L, x.small := by
  unfold trnL
  cases hp : pickL f u ix L with
  | none => exact h
  | some p =>
    dsimp only
    split
    · exact h
    · intro x hx
      rcases List.mem_or_eq_of_mem_set hx with hx | rfl
      · exact h x hx
      · obtain ⟨y, hy, _⟩ := pickL_some hp
        have e : L.getD p Le.zero = y := by simp [List.getD, hy]
        show (trnT _ _ _).size ≤ _
        rw [trnT_size, e]
        exact h y (List.mem_of_getElem? hy)
theorem trn_keyed (f u ix a : Int) (m : Nat) (L : List Le) : Keyed L (trnL f u ix a m L) := by
  unfold trnL
  cases hp : pickL f u ix L with
  | none => exact rfl
  | some p =>
    show Keyed L (if _ then _ else _)
    split
    · exact rfl
    · obtain ⟨y, hy, _⟩ := pickL_some hp
      have e : L.getD p Le.zero = y := by simp [List.getD, hy]
      rw [e]
      unfold Keyed
      rw [List.map_set]
      apply List.ext_getElem?
      intro i
      rw [List.getElem?_set]
      by_cases h : p = i
      · subst h
        have hl := (List.getElem?_eq_some_iff.1 hy).1
        rw [if_pos rfl, if_pos (by simpa using hl), List.getElem?_map, hy]
        rfl
      · rw [if_neg h]
theorem trn_diff (f u ix a : Int) (m : Nat) (L : List Le) (i : Nat) (x y : Le) (hx : L[i]? = some x) (hy : (trnL f u ix a m L)[i]? = some y) (hne : x ≠ y) :
    pickL f u ix L = some i ∧ 0 ≤ a ∧ x.b = false ∧ y.t = trnT x.t a.toNat m ∧ y.b = true ∧ ∀ a' m', trnL f u ix a' m' (trnL f u ix a m L) = trnL f u ix a m L := by
  cases hp : pickL f u ix L with
  | none =>
    exfalso
    unfold trnL at hy
    rw [hp, hx] at hy
    exact hne (by simpa using hy)
  | some p =>
    have hyy := hy
    unfold trnL at hyy
    rw [hp] at hyy
    change (if _ then _ else _ : List Le)[i]? = some y at hyy
    split at hyy
    · exfalso
      rw [hx] at hyy
      exact hne (by simpa using hyy)
    · rename_i hst
      rw [List.getElem?_set] at hyy
      by_cases h : p = i
      · subst h
        have hl := (List.getElem?_eq_some_iff.1 hx).1
        have e : L.getD p Le.zero = x := by simp [List.getD, hx]
        rw [if_pos rfl, if_pos hl, e] at hyy
        rw [e] at hst
        have hb : x.b = false := by
          cases h2 : x.b with
          | false => rfl
          | true => exact absurd (.inr h2) hst
        have ye : trnE x a.toNat m = y := by simpa using hyy
        have hyb : y.b = true := by
          rw [← ye]
          show (!decide (_ = _)) = true
          by_cases h3 : trnT x.t a.toNat m = x.t
          · exfalso
            apply hne
            rw [← ye]
            unfold trnE
            cases x
            simp_all
          · simp [h3]
        refine ⟨rfl, by omega, hb, by rw [← ye]; rfl, hyb, fun a' m' => ?_⟩
        have key : ∀ A : List Le, pickL f u ix A = some p → (A.getD p Le.zero).b = true → trnL f u ix a' m' A = A := by
          intro A h1 h2
          unfold trnL
          rw [h1]
          dsimp only
          rw [if_pos (.inr h2)]
        have e2 : (trnL f u ix a m L).getD p Le.zero = y := by simp [List.getD, hy]
        exact key _ (((trn_keyed f u ix a m L).pick f u ix).trans hp) (by rw [e2]; exact hyb)
      · exfalso
        rw [if_neg h, hx] at hyy
        exact hne (by simpa using hyy)
theorem at0_textOf (n : Nat) (f : Nat → UInt8) (k : Nat) (h : k < n) : at0 (textOf n f) k = f k := by
  unfold at0
  rw [textOf_data]
  simp [List.getD, h]
theorem trn_byte (s : ByteArray) (a m k : Nat) (hm : m < 4294967296) (hk : k < s.size) (h : at0 s k ≠ at0 (trnT s a m) k) : a ≤ k ∧ k ≤ a + 3 := by
  unfold trnT at h
  rw [at0_textOf _ _ _ hk] at h
  unfold trnF at h
  by_cases h1 : a ≤ k
  · refine ⟨h1, ?_⟩
    apply Classical.byContradiction
    intro h2
    rw [if_pos h1, mskB_far m (k - a) hm (by omega)] at h
    simp at h
  · rw [if_neg h1] at h
    exact absurd rfl h

end Go.Proofs.Ythkfolohhdafkaa
