/-
  Plain facts: which entries may be, and an entry's bytes.
  No condition; nothing of the program is named here.
-/
import Derived.Test.YtmbddjejbmjmfaaPackMb
namespace Go.Proofs.Ytmbddjejbmjmfaa
set_option maxRecDepth 10000
namespace Ent

def addr (g : Int) (se n : Nat) : Bool := decide (0 ≤ g) && decide (g < 8) && decide (se < 256 ^ 2) && decide (n < 256 ^ 4)
def may (k sv g : Int) (se n : Nat) (t : ByteArray) : Bool :=
  if k = 0 then decide (sv = 0) && decide (g = 0) && decide (se = 0) && decide (n = 0) && decide (t.size = 0)
  else if k = 1 then decide (0 ≤ sv) && decide (sv < 4) && decide (t.size ≤ 16) && addr g se n
  else if k = 2 ∨ k = 3 then decide (sv = 2) && decide (t.size = 0) && addr g se n
  else false

def bytes (k sv g se n : Nat) (t : ByteArray) : ByteArray :=
  Pack.putB k 1 ++ Pack.putB sv 1 ++ Pack.putB g 1 ++ Pack.putB se 2 ++ Pack.putB n 4 ++ Pack.textB t 16 ++ ⟨#[0, 0]⟩

theorem addr_bounds {g : Int} {se n : Nat} (h : addr g se n = true) : 0 ≤ g ∧ g < 8 ∧ se < 65536 ∧ n < 4294967296 := by
  unfold addr at h
  simp only [Bool.and_eq_true, decide_eq_true_iff] at h
  obtain ⟨⟨⟨a, b⟩, c⟩, d⟩ := h
  exact ⟨a, b, c, d⟩

theorem may_bounds {k sv g : Int} {se n : Nat} {t : ByteArray} (h : may k sv g se n t = true) :
    0 ≤ k ∧ k < 4 ∧ 0 ≤ sv ∧ sv < 4 ∧ 0 ≤ g ∧ g < 8 ∧ se < 65536 ∧ n < 4294967296 ∧ t.size ≤ 16 := by
  unfold may at h
  split at h
  · simp only [Bool.and_eq_true, decide_eq_true_iff] at h
    obtain ⟨⟨⟨⟨a, b⟩, c⟩, d⟩, e⟩ := h
    omega
  · split at h
    · simp only [Bool.and_eq_true, decide_eq_true_iff] at h
      obtain ⟨⟨⟨a, b⟩, c⟩, d⟩ := h
      have := addr_bounds d
      omega
    · split at h
      · simp only [Bool.and_eq_true, decide_eq_true_iff] at h
        obtain ⟨⟨a, b⟩, d⟩ := h
        have := addr_bounds d
        omega
      · cases h

theorem may_nats {k sv g : Int} {se n : Nat} {t : ByteArray} (h : may k sv g se n t = true) :
    ∃ a b c : Nat, k = (a : Int) ∧ sv = (b : Int) ∧ g = (c : Int) ∧ a < 256 ∧ b < 256 ∧ c < 256 ∧ se < 256 ^ 2 ∧ n < 256 ^ 4 ∧ t.size ≤ 16 := by
  obtain ⟨h1, h2, h3, h4, h5, h6, h7, h8, h9⟩ := may_bounds h
  exact ⟨k.toNat, sv.toNat, g.toNat, by omega, by omega, by omega, by omega, by omega, by omega, h7, h8, h9⟩

theorem bytes_size (k sv g se n : Nat) (t : ByteArray) : (bytes k sv g se n t).size = 28 := by
  unfold bytes
  simp only [ByteArray.size_append, Pack.putB_size, Pack.textB_size]
  rfl

end Ent
end Go.Proofs.Ytmbddjejbmjmfaa
