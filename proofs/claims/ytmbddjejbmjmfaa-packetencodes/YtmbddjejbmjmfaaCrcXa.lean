/-
  What the document's Xor returns, of three texts of one length: their exclusive or, byte by byte. Of the memory that was there nothing turns.
  Condition: a text has at most as many bytes as any text that can be read.
-/
import Derived.Test.YtmbddjejbmjmfaaCrcWc
import Derived.Test.YtmbddjejbmjmfaaHeld
import Derived.BigRegion
namespace Go.Proofs.Ytmbddjejbmjmfaa
set_option maxRecDepth 10000
open Go.RowKit

def xorTo (a b c : ByteArray) (k j : Nat) : UInt8 := if j < k then at0 a j ^^^ at0 b j ^^^ at0 c j else at0 a j

theorem xorTo_zero (a b c : ByteArray) : xorTo a b c 0 = at0 a := by
  funext j; simp [xorTo]
theorem xorTo_self (a b c : ByteArray) (k : Nat) : xorTo a b c k k = at0 a k := by simp [xorTo]
theorem at0_get (s : ByteArray) (k : Nat) (h : k < s.size) : s[k] = at0 s k := by
  have h1 : k < s.data.toList.length := by rw [Array.length_toList]; exact h
  simp [at0, List.getD, List.getElem?_eq_getElem h1]; rfl
theorem xorTo_succ (a b c : ByteArray) (k : Nat) : xorTo a b c (k + 1) = fun j => if j = k then at0 a k ^^^ at0 b k ^^^ at0 c k else xorTo a b c k j := by
  funext j
  unfold xorTo
  by_cases e : j = k
  · subst e; simp
  · by_cases h : j < k
    · simp [e, h, Nat.lt_succ_of_lt h]
    · have : ¬ j < k + 1 := by omega
      simp [e, h, this]

theorem ret_string {a b : ByteArray} (h : a = b) : Ending.returned (.string a) = .returned (.string b) := by rw [h]
theorem xor8 (a b : UInt8) : bits .xor .u8 (a.toNat : Int) (b.toNat : Int) = ((a ^^^ b).toNat : Int) := by
  rw [u8_xor_nat _ _ a.toNat_lt b.toNat_lt, UInt8.toNat_xor]

theorem length_xorL (l m n : List UInt8) (h1 : l.length = m.length) (h2 : l.length = n.length) : (Crc.xorL l m n).length = l.length := by
  induction l generalizing m n with
  | nil => cases m <;> cases n <;> simp [Crc.xorL] at *
  | cons a l ih =>
    cases m with
    | nil => simp at h1
    | cons b m =>
      cases n with
      | nil => simp at h2
      | cons c n =>
        simp only [List.length_cons, Nat.add_right_cancel_iff] at h1 h2
        show (Crc.xorL l m n).length + 1 = l.length + 1
        rw [ih m n h1 h2]
theorem getD_xorL (l m n : List UInt8) (h1 : l.length = m.length) (h2 : l.length = n.length) (i : Nat) (hi : i < l.length) : (Crc.xorL l m n).getD i 0 = l.getD i 0 ^^^ m.getD i 0 ^^^ n.getD i 0 := by
  induction l generalizing m n i with
  | nil => simp at hi
  | cons a l ih =>
    cases m with
    | nil => simp at h1
    | cons b m =>
      cases n with
      | nil => simp at h2
      | cons c n =>
        simp only [List.length_cons, Nat.add_right_cancel_iff] at h1 h2
        cases i with
        | zero => rfl
        | succ i =>
          have := ih m n h1 h2 i (by simpa using hi)
          simpa [Crc.xorL, List.getD] using this
theorem text_xorL (a b c : ByteArray) (hab : a.size = b.size) (hac : a.size = c.size) : (textOf a.size (xorTo a b c a.size)).data.toList = Crc.xorL a.data.toList b.data.toList c.data.toList := by
  have l1 := Crc.length_data a
  have l2 := Crc.length_data b
  have l3 := Crc.length_data c
  have hx := length_xorL a.data.toList b.data.toList c.data.toList (by omega) (by omega)
  rw [textOf_data]
  apply List.ext_getElem
  · rw [hx, l1]; simp
  · intro i h4 h5
    have hi : i < a.size := by simpa using h4
    have hg := getD_xorL a.data.toList b.data.toList c.data.toList (by omega) (by omega) i (by omega)
    rw [List.getD, List.getElem?_eq_getElem h5, Option.getD_some] at hg
    rw [hg]
    simp [xorTo, hi, at0]

end Go.Proofs.Ytmbddjejbmjmfaa
