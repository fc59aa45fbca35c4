/-
  Plain facts on sealed texts: a sealed text is Ok; a text that differs from a sealed one within four bytes beside one another alone is Ok just if it is that one.
  No condition.
-/
import Derived.Test.YtmbddjejbmjmfaaCrcTa
namespace Go.Proofs.Ytmbddjejbmjmfaa
set_option maxRecDepth 10000
namespace Crc

theorem bit_byteAt (r : BitVec 32) (k i : Nat) (h : i < 8) : (byteAt r k).toBitVec.getLsbD i = r.getLsbD (8 * k + i) := by
  unfold byteAt
  show (BitVec.ofNat 8 (r.toNat / 2 ^ (8 * k))).getLsbD i = _
  rw [BitVec.getLsbD_ofNat, Nat.testBit_div_two_pow]
  simp [h, BitVec.getLsbD, Nat.add_comm]

theorem num_four (r : BitVec 32) : num (byteAt r 0) (byteAt r 1) (byteAt r 2) (byteAt r 3) = r := by
  apply BitVec.eq_of_getLsbD_eq
  intro i hi
  rw [getLsbD_num _ _ _ _ i hi]
  by_cases h8 : i < 8
  · rw [if_pos h8, bit_byteAt r 0 i h8]; simp
  · rw [if_neg h8]
    by_cases h16 : i < 16
    · rw [if_pos h16, bit_byteAt r 1 (i - 8) (by omega)]; congr 1; omega
    · rw [if_neg h16]
      by_cases h24 : i < 24
      · rw [if_pos h24, bit_byteAt r 2 (i - 16) (by omega)]; congr 1; omega
      · rw [if_neg h24, bit_byteAt r 3 (i - 24) (by omega)]; congr 1; omega

def good : BitVec 32 := shN 32 ones

theorem run_seal (l : List UInt8) : run ones (l ++ fourL (sum l)) = good := by
  rw [run_append]
  show run (run ones l) [byteAt (sum l) 0, byteAt (sum l) 1, byteAt (sum l) 2, byteAt (sum l) 3] = good
  rw [run_four, num_four]
  unfold good sum
  rw [not_eq_xor, ← BitVec.xor_assoc, BitVec.xor_self, BitVec.zero_xor]

theorem four_of_run (l m : List UInt8) (hm : m.length = 4) (h : run ones (l ++ m) = good) : m = fourL (sum l) := by
  have h2 := run_seal l
  rw [run_append] at h h2
  exact four_inj (run ones l) m (fourL (sum l)) hm rfl (h.trans h2.symm)

theorem okL_of (l : List UInt8) (h4 : 4 ≤ l.length) : okL l = true ↔ run ones l = good := by
  have e : l = l.take (l.length - 4) ++ l.drop (l.length - 4) := (List.take_append_drop _ _).symm
  have hd : (l.drop (l.length - 4)).length = 4 := by rw [List.length_drop]; omega
  unfold okL
  rw [decide_eq_true h4, Bool.true_and, beq_iff_eq]
  constructor
  · intro h
    have h2 := run_seal (l.take (l.length - 4))
    rw [← h, ← e] at h2
    exact h2
  · intro h
    rw [e] at h
    exact four_of_run _ _ hd h

theorem ok_sealed (l : List UInt8) : okL (l ++ fourL (sum l)) = true :=
  (okL_of _ (by simp [fourL])).2 (run_seal l)

theorem ok_window (t u : List UInt8) (k : Nat) (h4 : 4 ≤ t.length) (hl : u.length = t.length) (ht : okL t = true) (h1 : u.take k = t.take k) (h2 : u.drop (k + 4) = t.drop (k + 4)) : okL u = true ↔ u = t := by
  constructor
  · intro h
    have r1 := (okL_of t h4).1 ht
    have r2 := (okL_of u (by omega)).1 h
    exact window ones u t k hl h1 h2 (r2.trans r1.symm)
  · intro h; rw [h]; exact ht

end Crc

theorem burst (t : ByteArray) (p : Int) (f : Nat → UInt8) (h4 : 4 ≤ t.size) (ht : Crc.okL t.data.toList = true) (ho : Outside t p f) :
    (Crc.okL (textOf t.size f).data.toList == ((textOf t.size f).toList == t.toList)) = true := by
  have lt := Crc.length_data t
  have lu : (textOf t.size f).data.toList.length = t.size := by rw [textOf_data]; simp
  have key : Crc.okL (textOf t.size f).data.toList = true ↔ (textOf t.size f).data.toList = t.data.toList := by
    refine Crc.ok_window t.data.toList (textOf t.size f).data.toList p.toNat (by omega) (by omega) ht ?_ ?_
    · apply List.ext_getElem
      · rw [List.length_take, List.length_take, lt, lu]
      · intro i h1 h2
        rw [List.length_take, lu] at h1
        have hi : i < t.size := by omega
        have hf := ho i (by omega)
        simp only [List.getElem_take, textOf_data, List.getElem_map, List.getElem_range]
        rw [hf]
        simp [at0, List.getD, List.getElem?_eq_getElem (show i < t.data.toList.length by omega)]
    · apply List.ext_getElem
      · rw [List.length_drop, List.length_drop, lt, lu]
      · intro i h1 h2
        rw [List.length_drop, lu] at h1
        have hf := ho (p.toNat + 4 + i) (by omega)
        simp only [List.getElem_drop, textOf_data, List.getElem_map, List.getElem_range]
        rw [hf]
        simp [at0, List.getD, List.getElem?_eq_getElem (show p.toNat + 4 + i < t.data.toList.length by omega)]
  rw [ByteArray.toList_eq, ByteArray.toList_eq]
  by_cases e : (textOf t.size f).data.toList = t.data.toList
  · rw [e, ht]; simp
  · have h1 : ((textOf t.size f).data.toList == t.data.toList) = false := by simpa using e
    have h2 : Crc.okL (textOf t.size f).data.toList = false := by
      cases h : Crc.okL (textOf t.size f).data.toList with
      | false => rfl
      | true => exact absurd (key.1 h) e
    rw [h1, h2]; rfl

end Go.Proofs.Ytmbddjejbmjmfaa
