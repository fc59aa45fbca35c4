/-
  Capabilities: a table that is minted from 1 on, the first of it revoked: what Mint, Revoke and Drop make of it.
  No condition.
-/
import Derived.Test.YtbefamedligoeaaRtN
namespace Go.Proofs.Ytbefamedligoeaa
set_option maxRecDepth 10000
open Go.RowKit Go.Sort

def fullE (s j : Nat) : Ri := ⟨j + 1, (s + (j + 1) % 2) % 18446744073709551616, 1, decide (j = 0)⟩
def fullL (s k : Nat) : List Ri := (List.range k).map (fullE s)
theorem full_len (s k : Nat) : (fullL s k).length = k := by simp [fullL]
theorem full_succ (s k : Nat) : fullL s (k + 1) = fullL s k ++ [fullE s k] := by simp [fullL, List.range_succ]
theorem full_fst (s k i : Nat) (h : k < i) : fstR i (fullL s k) = none := by
  refine first_no _ _ fun x hx => ?_
  obtain ⟨j, hj, rfl⟩ := List.mem_map.1 hx
  simp at hj
  show decide (j + 1 = i) = false
  exact decide_eq_false (by omega)
theorem full_mint (s k i : Nat) (h : k < i) : mintE i 1 (fullL s k) = if 16 ≤ k then 161 else 0 := by
  unfold mintE
  rw [full_fst s k i h, full_len, if_neg]
  rintro (h | h | h)
  · omega
  · cases h
  · cases h
theorem full_mintL (s k i s' : Nat) (h : k < i) (h6 : k < 16) : mintL i s' 1 (fullL s k) = fullL s k ++ [⟨i, s', 1, false⟩] := by
  unfold mintL
  rw [full_mint s k i h, if_neg (show ¬ 16 ≤ k by omega), if_pos rfl]
theorem full_rev (s k : Nat) : revE 1 (fullL s (k + 1)) = 160 := by
  have h0 : (fullL s (k + 1))[0]? = some (fullE s 0) := by simp [fullL]
  have h1 : fstR 1 (fullL s (k + 1)) = some 0 := first_at _ _ 0 (fullE s 0) h0 rfl (by simp)
  have h2 := val_of h1 h0
  unfold revE
  rw [h2]
  rfl
def full1 (s : Nat) : List Ri := [⟨1, (s + 1) % 18446744073709551616, 1, false⟩]
theorem full1_rev (s : Nat) : revE 1 (full1 s) = 0 ∧ revL 1 (full1 s) = fullL s 1 := ⟨rfl, rfl⟩
theorem full1_eq (s : Nat) : fullL s 0 ++ [⟨1, (s + 1 % 2) % 18446744073709551616, 1, false⟩] = full1 s := by
  unfold full1 fullL
  rw [List.range_zero, List.map_nil, List.nil_append]
theorem full_more (s k : Nat) (h : 0 < k) : fullL s k ++ [⟨k + 1, (s + (k + 1) % 2) % 18446744073709551616, 1, false⟩] = fullL s (k + 1) := by
  rw [full_succ]
  have : decide (k = 0) = false := by simp; omega
  simp only [fullE, this]
theorem full_drop (s : Nat) (hs : s < 18446744073709551616) : ∀ k, (dropR s (fullL s k)).length = (k + 1) / 2
  | 0 => rfl
  | k + 1 => by
    have h := full_drop s hs k
    unfold dropR offL at h ⊢
    rw [full_succ, List.filter_append, List.length_append, h]
    by_cases hk : (k + 1) % 2 = 1
    · have : ofS s (fullE s k) = false := by
        show decide ((s + (k + 1) % 2) % 18446744073709551616 = s) = false
        exact decide_eq_false (by omega)
      simp [this]
      omega
    · have : ofS s (fullE s k) = true := by
        show decide ((s + (k + 1) % 2) % 18446744073709551616 = s) = true
        exact decide_eq_true (by omega)
      simp [this]
      omega

end Go.Proofs.Ytbefamedligoeaa
