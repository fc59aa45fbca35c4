/-
  What the document's Xor returns, of three texts of one length: their exclusive or, byte by byte. Of the memory that was there nothing turns.
  Condition: a text has at most as many bytes as any text that can be read.
-/
import Derived.Test.YtbkhenooimjcfaaWd
import Derived.Test.YtbkhenooimjcfaaHeld
import Derived.BigRegion
namespace Go.Proofs.Ytbkhenooimjcfaa
open Go.RowKit

def xorTo (a b c : ByteArray) (k j : Nat) : UInt8 := if j < k then at0 a j ^^^ at0 b j ^^^ at0 c j else at0 a j

theorem xorTo_zero (a b c : ByteArray) : xorTo a b c 0 = at0 a := by
  funext j; simp [xorTo]
theorem xorTo_self (a b c : ByteArray) (k : Nat) : xorTo a b c k k = at0 a k := by simp [xorTo]
theorem at0_get (s : ByteArray) (k : Nat) (h : k < s.size) : s[k] = at0 s k := by
  have h1 : k < s.data.toList.length := by rw [Array.length_toList]; exact h
  simp [at0, List.getD, List.getElem?_eq_getElem h1]; rfl
theorem xorTo_succ (a b c : ByteArray) (k : Nat) : xorTo a b c (k + 1) = fun j => if j = k then at0 a k ^^^ at0 b k ^^^ at0 c k else xorTo a b c k j := by
  funext j
  unfold xorTo
  by_cases e : j = k
  · subst e; simp
  · by_cases h : j < k
    · simp [e, h, Nat.lt_succ_of_lt h]
    · have : ¬ j < k + 1 := by omega
      simp [e, h, this]

theorem ret_string {a b : ByteArray} (h : a = b) : Ending.returned (.string a) = .returned (.string b) := by rw [h]
theorem xor8 (a b : UInt8) : bits .xor .u8 (a.toNat : Int) (b.toNat : Int) = ((a ^^^ b).toNat : Int) := by
  rw [u8_xor_nat _ _ a.toNat_lt b.toNat_lt, UInt8.toNat_xor]

set_option maxHeartbeats 400000 in
theorem xor_any (a b c : ByteArray) (w : World) (ha : a.size ≤ 140737488351232) (hab : a.size = b.size) (hac : a.size = c.size) :
    Calls Try.prog 17 #[.string a, .string b, .string c] w fun e w' => e = .returned (.string (textOf a.size (xorTo a b c a.size))) ∧ Below w.heap.size w w' := by
  have hcv := Lib.run_convert_string_bytes (P := Try.prog) w 9 30 5 a Try.underlying9 Try.underlying30 Try.underlying5
  have Hab : Hid (a.size = b.size) := hab
  have Hac : Hid (a.size = c.size) := hac
  clear hab hac
  go_enter Try.func17, Try.ntmps17
  go_wp2
  clear hcv
  go_loopw [8] (fun i w' => ∃ k : Nat, k ≤ a.size ∧ i = .int .i64 k ∧ Held w.heap.size a.size (xorTo a b c k) w' ∧ Below w.heap.size w w') (fun i _ => a.size - (intOf i).toNat)
  case atStart => exact ⟨0, by omega, rfl, by rw [xorTo_zero]; exact held_bytes w 5 a, below_bytes w 5 a⟩
  case round =>
    obtain ⟨k, hk, rfl, hh, hb⟩ := hrel
    have HH : Hid (Held w.heap.size a.size (xorTo a b c k) wr) := hh
    clear hh
    by_cases hlt : k < a.size
    · have hc := (HH.out.2 k hlt).1
      have hf := (HH.out.2 k hlt).2
      have hlb : k < b.size := by have := Hab.out; omega
      have hlc : k < c.size := by have := Hac.out; omega
      go_wp2
      go_region
      go_wp2
      have E : bits .xor .u8 (bits .xor .u8 ((xorTo a b c k k).toNat : Int) (b[k].toNat : Int)) (c[k].toNat : Int) = ((at0 a k ^^^ at0 b k ^^^ at0 c k).toNat : Int) := by
        rw [xorTo_self, at0_get b k hlb, at0_get c k hlc, xor8, xor8]
      refine ⟨⟨k + 1, by omega, by go_num, ?_, (hb.setCell (Nat.le_refl _) _).drew⟩, by simp [intOf]; omega⟩
      rw [E, xorTo_succ]
      exact (HH.out.set hlt _).drew
    · have kc := HH.out.conv (P := Try.prog) (cap := grownCap w a.size 0 5) 30 5 9 Try.underlying30 Try.underlying5 Try.underlying9
      have hka : Hid (k = a.size) := by unfold Hid; omega
      go_wp2
      go_ret
      exact ⟨ret_string (by rw [hka.out]), hb⟩

theorem length_xorL (l m n : List UInt8) (h1 : l.length = m.length) (h2 : l.length = n.length) : (Crc.xorL l m n).length = l.length := by
  induction l generalizing m n with
  | nil => cases m <;> cases n <;> simp [Crc.xorL] at *
  | cons a l ih =>
    cases m with
    | nil => simp at h1
    | cons b m =>
      cases n with
      | nil => simp at h2
      | cons c n =>
        simp only [List.length_cons, Nat.add_right_cancel_iff] at h1 h2
        show (Crc.xorL l m n).length + 1 = l.length + 1
        rw [ih m n h1 h2]
theorem getD_xorL (l m n : List UInt8) (h1 : l.length = m.length) (h2 : l.length = n.length) (i : Nat) (hi : i < l.length) : (Crc.xorL l m n).getD i 0 = l.getD i 0 ^^^ m.getD i 0 ^^^ n.getD i 0 := by
  induction l generalizing m n i with
  | nil => simp at hi
  | cons a l ih =>
    cases m with
    | nil => simp at h1
    | cons b m =>
      cases n with
      | nil => simp at h2
      | cons c n =>
        simp only [List.length_cons, Nat.add_right_cancel_iff] at h1 h2
        cases i with
        | zero => rfl
        | succ i =>
          have := ih m n h1 h2 i (by simpa using hi)
          simpa [Crc.xorL, List.getD] using this
theorem text_xorL (a b c : ByteArray) (hab : a.size = b.size) (hac : a.size = c.size) : (textOf a.size (xorTo a b c a.size)).data.toList = Crc.xorL a.data.toList b.data.toList c.data.toList := by
  have l1 := Crc.length_data a
  have l2 := Crc.length_data b
  have l3 := Crc.length_data c
  have hx := length_xorL a.data.toList b.data.toList c.data.toList (by omega) (by omega)
  rw [textOf_data]
  apply List.ext_getElem
  · rw [hx, l1]; simp
  · intro i h4 h5
    have hi : i < a.size := by simpa using h4
    have hg := getD_xorL a.data.toList b.data.toList c.data.toList (by omega) (by omega) i (by omega)
    rw [List.getD, List.getElem?_eq_getElem h5, Option.getD_some] at hg
    rw [hg]
    simp [xorTo, hi, at0]

end Go.Proofs.Ytbkhenooimjcfaa
