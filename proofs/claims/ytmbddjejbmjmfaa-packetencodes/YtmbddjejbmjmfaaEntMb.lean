/-
  Plain facts: an entry's bytes laid in a row, found again, and one to one; any 28 bytes as fields.
  No condition; nothing of the program is named here.
-/
import Derived.Test.YtmbddjejbmjmfaaEntMath
namespace Go.Proofs.Ytmbddjejbmjmfaa
set_option maxRecDepth 10000
namespace Pack

theorem put_inj {n n' k : Nat} {r r' : ByteArray} (hn : n < 256 ^ k) (hn' : n' < 256 ^ k) (h : putB n k ++ r = putB n' k ++ r') : n = n' ∧ r = r' := by
  have h1 := back_val n k r
  have h2 := back_val n' k r'
  rw [h, h2, Nat.mod_eq_of_lt hn, Nat.mod_eq_of_lt hn'] at h1
  have h3 := behind (putB n k) r k (putB_size _ _)
  have h4 := behind (putB n' k) r' k (putB_size _ _)
  rw [h, h4] at h3
  exact ⟨h1.symm, h3.symm⟩

theorem text_inj {t t' r : ByteArray} {k : Nat} (hk : k ≤ 255) (ht : t.size ≤ k) (ht' : t'.size ≤ k) (h : textB t k ++ r = textB t' k ++ r) : t = t' := by
  have hp : 0 < (textB t k ++ r).size := by rw [ByteArray.size_append, textB_size]; omega
  have hp' : 0 < (textB t' k ++ r).size := by rw [ByteArray.size_append, textB_size]; omega
  have h1 := at0_eq _ 0 hp
  have h2 := at0_eq _ 0 hp'
  rw [first t r k hp] at h1
  rw [first t' r k hp', ← h, h1] at h2
  have h3 : t.size = t'.size := by
    have h4 := congrArg UInt8.toNat h2
    rw [UInt8.toNat_ofNat', UInt8.toNat_ofNat'] at h4
    omega
  have h5 := middle t r k ht
  have h6 := middle t' r k ht'
  rw [h, h3, h6] at h5
  exact h5.symm

end Pack
namespace Ent

theorem bytes_chain (k sv g se n : Nat) (t : ByteArray) : bytes k sv g se n t =
    Pack.putB k 1 ++ (Pack.putB sv 1 ++ (Pack.putB g 1 ++ (Pack.putB se 2 ++ (Pack.putB n 4 ++ (Pack.textB t 16 ++ ⟨#[0, 0]⟩))))) := by
  unfold bytes
  simp only [ByteArray.append_assoc]

theorem bytes_inj {k sv g se n k' sv' g' se' n' : Nat} {t t' : ByteArray} (hk : k < 256) (hv : sv < 256) (hg : g < 256) (hs : se < 256 ^ 2) (hn : n < 256 ^ 4) (ht : t.size ≤ 16)
    (hk' : k' < 256) (hv' : sv' < 256) (hg' : g' < 256) (hs' : se' < 256 ^ 2) (hn' : n' < 256 ^ 4) (ht' : t'.size ≤ 16) (h : bytes k sv g se n t = bytes k' sv' g' se' n' t') :
    k = k' ∧ sv = sv' ∧ g = g' ∧ se = se' ∧ n = n' ∧ t = t' := by
  rw [bytes_chain, bytes_chain] at h
  obtain ⟨h1, h⟩ := Pack.put_inj (by simpa using hk) (by simpa using hk') h
  obtain ⟨h2, h⟩ := Pack.put_inj (by simpa using hv) (by simpa using hv') h
  obtain ⟨h3, h⟩ := Pack.put_inj (by simpa using hg) (by simpa using hg') h
  obtain ⟨h4, h⟩ := Pack.put_inj hs hs' h
  obtain ⟨h5, h⟩ := Pack.put_inj hn hn' h
  exact ⟨h1, h2, h3, h4, h5, Pack.text_inj (by decide) ht ht' h⟩

theorem part (s : ByteArray) (k m : Nat) (h : s.size = k + m) : ∃ (n : Nat) (r : ByteArray), n < 256 ^ k ∧ r.size = m ∧ s = Pack.putB n k ++ r :=
  ⟨Pack.val (s.data.toList.take k), s.extract k s.size, Pack.once_fits s k (by omega), by rw [ByteArray.size_extract]; omega, (Pack.once_put s k (by omega)).symm⟩

theorem parse (s : ByteArray) (h : s.size = 28) : ∃ (k sv g se n : Nat) (r : ByteArray), k < 256 ∧ sv < 256 ∧ g < 256 ∧ se < 256 ^ 2 ∧ n < 256 ^ 4 ∧ r.size = 19 ∧
    s = Pack.putB k 1 ++ (Pack.putB sv 1 ++ (Pack.putB g 1 ++ (Pack.putB se 2 ++ (Pack.putB n 4 ++ r)))) := by
  obtain ⟨k, s1, h1, z1, rfl⟩ := part s 1 27 h
  obtain ⟨sv, s2, h2, z2, rfl⟩ := part s1 1 26 z1
  obtain ⟨g, s3, h3, z3, rfl⟩ := part s2 1 25 z2
  obtain ⟨se, s4, h4, z4, rfl⟩ := part s3 2 23 z3
  obtain ⟨n, s5, h5, z5, rfl⟩ := part s4 4 19 z4
  exact ⟨k, sv, g, se, n, s5, by simpa using h1, by simpa using h2, by simpa using h3, h4, h5, z5, rfl⟩

end Ent
end Go.Proofs.Ytmbddjejbmjmfaa
