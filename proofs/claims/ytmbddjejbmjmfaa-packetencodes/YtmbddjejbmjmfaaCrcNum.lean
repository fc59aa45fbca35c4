/-
  Plain facts: what the model's operations on numbers of 32 and 8 bits are, said of bit vectors.
  No condition; nothing of the program is named here.
-/
import Derived.Test.YtmbddjejbmjmfaaCrcMath
import Derived.WalkKit
import Derived.Laws.BitsAllLaws
namespace Go.Proofs.Ytmbddjejbmjmfaa
set_option maxRecDepth 10000
namespace Crc

theorem lt32 (a : BitVec 32) : (a.toNat : Int) < 4294967296 := by have := a.isLt; omega
theorem lt8 (b : UInt8) : (b.toNat : Int) < 256 := by have := b.toNat_lt; omega

theorem xor32 (a b : BitVec 32) : bits .xor .u32 (a.toNat : Int) (b.toNat : Int) = ((a ^^^ b).toNat : Int) := by
  rw [u32_xor_nat _ _ a.isLt b.isLt, BitVec.toNat_xor]

theorem xor_poly (a : BitVec 32) : bits .xor .u32 (a.toNat : Int) 3988292384 = ((a ^^^ poly).toNat : Int) := by
  rw [← xor32]; rfl

theorem ext_toNat (b : UInt8) : (ext b).toNat = b.toNat := by
  unfold ext
  have := b.toNat_lt
  rw [BitVec.toNat_setWidth, UInt8.toNat_toBitVec]; omega

theorem xor_byte (a : BitVec 32) (b : UInt8) : bits .xor .u32 (a.toNat : Int) (b.toNat : Int) = ((a ^^^ ext b).toNat : Int) := by
  rw [← xor32, ext_toNat]

theorem not32 (a : BitVec 32) : bits .xor .u32 4294967295 (a.toNat : Int) = ((~~~ a).toNat : Int) := by
  rw [not_eq_xor, BitVec.xor_comm, ← xor32]; rfl

theorem low_eq (a : BitVec 32) : a.getLsbD 0 = decide (a.toNat % 2 = 1) := by
  rw [BitVec.getLsbD, Nat.testBit_zero]

theorem and_one (a : BitVec 32) : bits .and .u32 (a.toNat : Int) 1 = ((a.toNat % 2 : Nat) : Int) := by
  have := u32_and_nat a.toNat 1 a.isLt (by decide)
  rw [Nat.and_one_is_mod] at this
  exact this

theorem half (a : BitVec 32) : (a.toNat : Int) / (2 : Int) = ((a >>> 1).toNat : Int) := by
  rw [BitVec.toNat_ushiftRight, Nat.shiftRight_eq_div_pow]; omega

theorem sh_odd (a : BitVec 32) (h : a.toNat % 2 = 1) : sh a = (a >>> 1) ^^^ poly := by
  unfold sh; rw [low_eq, h, if_pos (by decide)]
theorem sh_even (a : BitVec 32) (h : a.toNat % 2 = 0) : sh a = a >>> 1 := by
  unfold sh; rw [low_eq, h, if_neg (by decide)]

def byteAt (r : BitVec 32) (k : Nat) : UInt8 := UInt8.ofNat (r.toNat / 2 ^ (8 * k))
theorem byteAt0 (r : BitVec 32) : (r.toNat : Int) % 256 = ((byteAt r 0).toNat : Int) := by
  unfold byteAt; rw [UInt8.toNat_ofNat']; omega
theorem byteAt1 (r : BitVec 32) : (r.toNat : Int) / 256 % 256 = ((byteAt r 1).toNat : Int) := by
  unfold byteAt; rw [UInt8.toNat_ofNat']; omega
theorem byteAt2 (r : BitVec 32) : (r.toNat : Int) / 65536 % 256 = ((byteAt r 2).toNat : Int) := by
  unfold byteAt; rw [UInt8.toNat_ofNat']; omega
theorem byteAt3 (r : BitVec 32) : (r.toNat : Int) / 16777216 = ((byteAt r 3).toNat : Int) := by
  have := r.isLt
  unfold byteAt; rw [UInt8.toNat_ofNat']; omega
def four (r : BitVec 32) : ByteArray := ⟨#[byteAt r 0, byteAt r 1, byteAt r 2, byteAt r 3]⟩
theorem strOf_four (r : BitVec 32) : strOfNums [((byteAt r 0).toNat : Int), ((byteAt r 1).toNat : Int), ((byteAt r 2).toNat : Int), ((byteAt r 3).toNat : Int)] = four r := by
  simp [strOfNums, four]

def fourL (r : BitVec 32) : List UInt8 := [byteAt r 0, byteAt r 1, byteAt r 2, byteAt r 3]
def okL (l : List UInt8) : Bool := decide (4 ≤ l.length) && (l.drop (l.length - 4) == fourL (sum (l.take (l.length - 4))))
theorem four_data (r : BitVec 32) : (four r).data.toList = fourL r := rfl
theorem four_toList (r : BitVec 32) : (four r).toList = fourL r := by rw [ByteArray.toList_eq]; rfl
theorem length_data (s : ByteArray) : s.data.toList.length = s.size := by rw [Array.length_toList]; rfl
theorem ok_of_short (s : ByteArray) (h : s.size < 4) : okL s.data.toList = false := by
  unfold okL
  have : ¬ 4 ≤ s.data.toList.length := by rw [length_data]; omega
  rw [decide_eq_false this, Bool.false_and]
theorem ok_of_long (s : ByteArray) (h : 4 ≤ s.size) : ((s.extract (s.size - 4) s.size).toList == (four (sum (s.data.toList.take (s.size - 4)))).toList) = okL s.data.toList := by
  unfold okL
  have h1 : 4 ≤ s.data.toList.length := by rw [length_data]; omega
  have h3 : (s.extract (s.size - 4) s.size).toList = s.data.toList.drop (s.size - 4) := by
    rw [ByteArray.toList_eq, ByteArray.data_extract, Array.toList_extract, List.extract_eq_take_drop, List.take_of_length_le]
    rw [List.length_drop, length_data]
    omega
  rw [decide_eq_true h1, Bool.true_and, length_data, h3, four_toList]

end Crc
end Go.Proofs.Ytmbddjejbmjmfaa
