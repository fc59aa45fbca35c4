/-
  What comes of two that are heard, in either order; of one that is heard again.
  No condition.
-/
import Derived.Test.YteodacgolpfodaaBtF
namespace Go.Proofs.Yteodacgolpfodaa
set_option maxRecDepth 10000
open Go.RowKit Go.Sort

theorem put8_same (f : Nat → Nat) (i v : Nat) : put8 f i v i = v := by simp [put8]
theorem put8_ne (f : Nat → Nat) (i v j : Nat) (h : j ≠ i) : put8 f i v j = f j := by simp [put8, h]
theorem hearB_yes {b : Bt} {i : Int} {n : Nat} (h : hearsB b i n = true) : hearB b i n = ⟨b.now, put8 b.hd i.toNat b.now, put8 b.inc i.toNat n⟩ := by simp [hearB, h]
theorem hearB_no {b : Bt} {i : Int} {n : Nat} (h : hearsB b i n = false) : hearB b i n = b := by simp [hearB, h]
theorem hearsB_iff {b : Bt} {i : Int} {n : Nat} : hearsB b i n = true ↔ 0 ≤ i ∧ i < 8 ∧ n ≠ 0 ∧ b.now ≠ 0 ∧ b.inc i.toNat ≤ n := by simp [hearsB]
theorem hearB_now (b : Bt) (i : Int) (n : Nat) : (hearB b i n).now = b.now := by unfold hearB; split <;> rfl

theorem hears_again (b : Bt) (i : Int) (n : Nat) : hearsB (hearB b i n) i n = hearsB b i n := by
  cases h : hearsB b i n with
  | false => rw [hearB_no h, h]
  | true =>
    rw [hearB_yes h]
    rw [hearsB_iff] at h ⊢
    exact ⟨h.1, h.2.1, h.2.2.1, h.2.2.2.1, Nat.le_of_eq (put8_same _ _ _)⟩
theorem hear_again (b : Bt) (i : Int) (n : Nat) : (hearB (hearB b i n) i n).arr = (hearB b i n).arr := by
  cases h : hearsB b i n with
  | false => rw [hearB_no h, hearB_no h]
  | true =>
    have h' := hears_again b i n
    rw [h] at h'
    rw [hearB_yes h', hearB_now, hearB_yes h]
    refine Bt.ext_arr rfl ?_ ?_ <;> intro j _ <;> simp only [put8] <;> split <;> simp_all
theorem hears_other (b : Bt) (i k : Int) (n m : Nat) (hne : i ≠ k) : hearsB (hearB b i n) k m = hearsB b k m := by
  cases h : hearsB b i n with
  | false => rw [hearB_no h]
  | true =>
    rw [hearB_yes h, Bool.eq_iff_iff]
    rw [hearsB_iff] at h
    rw [hearsB_iff, hearsB_iff]
    by_cases hk : 0 ≤ k
    · have e : k.toNat ≠ i.toNat := by omega
      simp only [put8_ne _ _ _ _ e]
    · simp [hk]
theorem hear_other (b : Bt) (i k : Int) (n m : Nat) (hne : i ≠ k) : (hearB (hearB b k m) i n).arr = (hearB (hearB b i n) k m).arr := by
  have e1 := hears_other b i k n m hne
  have e2 := hears_other b k i m n (fun h => hne h.symm)
  cases h1 : hearsB b i n with
  | false =>
    rw [h1] at e2
    rw [hearB_no e2, hearB_no h1]
  | true =>
    cases h2 : hearsB b k m with
    | false =>
      rw [h2] at e1
      rw [hearB_no e1, hearB_no h2]
    | true =>
      rw [h1] at e2
      rw [h2] at e1
      rw [hearB_yes e2, hearB_yes e1, hearB_yes h1, hearB_yes h2]
      rw [hearsB_iff] at h1 h2
      have e : k.toNat ≠ i.toNat := by omega
      refine Bt.ext_arr rfl ?_ ?_ <;> intro j _ <;> simp only [put8] <;> by_cases a : j = i.toNat <;> by_cases b : j = k.toNat <;> simp_all

end Go.Proofs.Yteodacgolpfodaa
