/-
  Plain facts: a number's bytes tell it, stand as numbers do, and are as many as the width; a field ahead of other bytes is found again.
  No condition; nothing of the program is named here.
-/
import Derived.Test.YtmbddjejbmjmfaaPackMath
namespace Go.Proofs.Ytmbddjejbmjmfaa
set_option maxRecDepth 10000
namespace Pack

def digits (k n : Nat) : List UInt8 := (List.range k).map (putF n k)

theorem putB_data (n k : Nat) : (putB n k).data.toList = digits k n := rfl
theorem putB_size (n k : Nat) : (putB n k).size = k := textOf_size _ _
theorem textB_size (s : ByteArray) (k : Nat) : (textB s k).size = 1 + k := textOf_size _ _
theorem digits_length (k n : Nat) : (digits k n).length = k := by simp [digits]

theorem digits_succ (k n : Nat) : digits (k + 1) n = byteAt n k :: digits k n := by
  unfold digits
  rw [List.range_succ_eq_map, List.map_cons, List.map_map]
  congr 1
  apply List.map_congr_left
  intro j _
  show byteAt n (k + 1 - 1 - (j + 1)) = byteAt n (k - 1 - j)
  congr 1; omega

theorem val_cons (b : UInt8) (l : List UInt8) : val (b :: l) = b.toNat * 256 ^ l.length + val l := by
  suffices h : ∀ (l : List UInt8) (a : Nat), l.foldl (fun a b => a * 256 + b.toNat) a = a * 256 ^ l.length + val l by
    have := h l b.toNat
    unfold val at this ⊢
    simpa using this
  intro l
  induction l with
  | nil => intro a; simp [val]
  | cons c l ih =>
    intro a
    have h1 := ih (a * 256 + c.toNat)
    have h2 := ih c.toNat
    unfold val at h1 h2 ⊢
    simp only [List.foldl_cons, List.length_cons, Nat.zero_mul, Nat.zero_add] at h1 h2 ⊢
    rw [h1, h2, Nat.pow_succ', Nat.add_mul, Nat.mul_assoc]
    omega

theorem mod_succ (n k : Nat) : n % 256 ^ (k + 1) = n / 256 ^ k % 256 * 256 ^ k + n % 256 ^ k := by
  rw [Nat.mod_pow_succ, Nat.mul_comm, Nat.add_comm]

theorem val_digits (k n : Nat) : val (digits k n) = n % 256 ^ k := by
  induction k with
  | zero => simp [digits, val, Nat.mod_one]
  | succ k ih => rw [digits_succ, val_cons, digits_length, ih, byteAt_toNat, mod_succ]

theorem digits_inj (k n m : Nat) (h : digits k n = digits k m) : n % 256 ^ k = m % 256 ^ k := by
  rw [← val_digits, ← val_digits, h]

theorem less_digits (k n m : Nat) : Op.bytesLess (digits k n) (digits k m) = decide (n % 256 ^ k < m % 256 ^ k) := by
  induction k with
  | zero => simp [digits, Op.bytesLess, Nat.mod_one]
  | succ k ih =>
    rw [digits_succ, digits_succ, Op.bytesLess, ih, mod_succ n k, mod_succ m k]
    have e1 := byteAt_toNat n k
    have e2 := byteAt_toNat m k
    have hp : 0 < 256 ^ k := Nat.pow_pos (by decide)
    have l1 := Nat.mod_lt n hp
    have l2 := Nat.mod_lt m hp
    generalize n / 256 ^ k % 256 = a at e1 ⊢
    generalize m / 256 ^ k % 256 = b at e2 ⊢
    generalize n % 256 ^ k = x at l1 ⊢
    generalize m % 256 ^ k = y at l2 ⊢
    generalize byteAt n k = p at e1 ⊢
    generalize byteAt m k = q at e2 ⊢
    generalize 256 ^ k = P at *
    rcases Nat.lt_trichotomy a b with h | h | h
    · have hlt : p < q := by rw [UInt8.lt_iff_toNat_lt, e1, e2]; exact h
      have hm : a * P + P ≤ b * P := by rw [← Nat.succ_mul]; exact Nat.mul_le_mul_right _ h
      rw [decide_eq_true hlt, Bool.true_or, decide_eq_true (by omega)]
    · have heq : p = q := UInt8.toNat_inj.1 (by rw [e1, e2, h])
      subst heq h
      have hn : ¬ p < p := by rw [UInt8.lt_iff_toNat_lt]; omega
      rw [decide_eq_false hn, beq_self_eq_true, Bool.false_or, Bool.true_and]
      congr 1
      apply propext
      omega
    · have hlt : ¬ p < q := by rw [UInt8.lt_iff_toNat_lt, e1, e2]; omega
      have hne : (p == q) = false := by rw [beq_eq_false_iff_ne]; intro e; rw [e] at e1; omega
      have hm : b * P + P ≤ a * P := by rw [← Nat.succ_mul]; exact Nat.mul_le_mul_right _ h
      rw [decide_eq_false hlt, hne, Bool.false_and, Bool.false_or, decide_eq_false (by omega)]

theorem put_less (n m k : Nat) (hn : n < 256 ^ k) (hm : m < 256 ^ k) : Op.bytesLess (putB n k).toList (putB m k).toList = decide (n < m) := by
  rw [ByteArray.toList_eq, ByteArray.toList_eq, putB_data, putB_data, less_digits, Nat.mod_eq_of_lt hn, Nat.mod_eq_of_lt hm]
theorem put_equal (n m k : Nat) (hn : n < 256 ^ k) (hm : m < 256 ^ k) : ((putB n k).toList == (putB m k).toList) = decide (n = m) := by
  rw [ByteArray.toList_eq, ByteArray.toList_eq, putB_data, putB_data, Bool.eq_iff_iff, beq_iff_eq, decide_eq_true_iff]
  constructor
  · intro h
    have := digits_inj k n m h
    rwa [Nat.mod_eq_of_lt hn, Nat.mod_eq_of_lt hm] at this
  · intro h; rw [h]

theorem extract_list (s : ByteArray) (a b : Nat) : (s.extract a b).data.toList = (s.data.toList.drop a).take (b - a) := by
  rw [ByteArray.data_extract, Array.toList_extract, List.extract_eq_take_drop]
theorem size_list (s : ByteArray) : s.data.toList.length = s.size := by rw [Array.length_toList]; rfl
theorem append_list (s t : ByteArray) : (s ++ t).data.toList = s.data.toList ++ t.data.toList := by
  rw [ByteArray.data_append, Array.toList_append]
theorem ext_list {s t : ByteArray} (h : s.data.toList = t.data.toList) : s = t := ByteArray.ext (Array.ext' h)

theorem back_val (n k : Nat) (r : ByteArray) : val ((putB n k ++ r).data.toList.take k) = n % 256 ^ k := by
  rw [append_list, putB_data, List.take_append_of_le_length (by rw [digits_length]; exact Nat.le_refl _), List.take_of_length_le (by rw [digits_length]; exact Nat.le_refl _), val_digits]
theorem front (s r : ByteArray) (k : Nat) (h : s.size = k) : (s ++ r).extract 0 k = s := by
  apply ext_list
  rw [extract_list, append_list, List.drop_zero, Nat.sub_zero, List.take_append_of_le_length (by rw [size_list]; omega), List.take_of_length_le (by rw [size_list]; omega)]
theorem behind (s r : ByteArray) (k : Nat) (h : s.size = k) : (s ++ r).extract k (s ++ r).size = r := by
  apply ext_list
  rw [extract_list, append_list, List.drop_append_of_le_length (by rw [size_list]; omega), List.drop_of_length_le (by rw [size_list]; omega), List.nil_append, List.take_of_length_le]
  rw [size_list, ByteArray.size_append]; omega

theorem textB_data (s : ByteArray) (k : Nat) : (textB s k).data.toList = UInt8.ofNat s.size :: (List.range k).map (at0 s) := by
  show (List.range (1 + k)).map (textF s) = _
  rw [Nat.add_comm, List.range_succ_eq_map, List.map_cons, List.map_map]
  rfl
theorem at0_range (s : ByteArray) (k : Nat) (h : s.size ≤ k) : ((List.range k).map (at0 s)).take s.size = s.data.toList := by
  rw [← List.map_take, List.take_range, Nat.min_eq_left h]
  exact congrArg (fun b : ByteArray => b.data.toList) (textOf_at0 s)
theorem middle (s r : ByteArray) (k : Nat) (h : s.size ≤ k) : (textB s k ++ r).extract 1 (1 + s.size) = s := by
  apply ext_list
  rw [extract_list, append_list, textB_data, List.cons_append, List.drop_succ_cons, List.drop_zero, Nat.add_sub_cancel_left,
    List.take_append_of_le_length (by simpa using h), at0_range s k h]
theorem first (s r : ByteArray) (k : Nat) (h : 0 < (textB s k ++ r).size) : (textB s k ++ r)[0] = UInt8.ofNat s.size := by
  have h1 : at0 (textB s k ++ r) 0 = UInt8.ofNat s.size := by
    unfold at0
    rw [append_list, textB_data]; rfl
  rw [← at0_eq _ 0 h, h1]

theorem join (s : ByteArray) (k : Nat) : s.extract 0 k ++ s.extract k s.size = s := by
  apply ext_list
  rw [append_list, extract_list, extract_list, List.drop_zero, Nat.sub_zero, List.take_of_length_le (l := s.data.toList.drop k) (by rw [List.length_drop, size_list]; omega), List.take_append_drop]

theorem byteAt_mod (n k i : Nat) (h : i < k) : byteAt (n % 256 ^ k) i = byteAt n i := by
  apply UInt8.toNat_inj.1
  have e : 256 ^ k = 256 ^ i * 256 ^ (k - i) := by rw [← Nat.pow_add]; congr 1; omega
  have d : 256 ∣ 256 ^ (k - i) := by
    obtain ⟨j, hj⟩ : ∃ j, k - i = j + 1 := ⟨k - i - 1, by omega⟩
    rw [hj, Nat.pow_succ]; exact Nat.dvd_mul_left _ _
  rw [byteAt_toNat, byteAt_toNat, e, Nat.mod_mul_right_div_self, Nat.mod_mod_of_dvd _ d]
theorem digits_mod (n k : Nat) : digits k n = digits k (n % 256 ^ k) := by
  unfold digits
  apply List.map_congr_left
  intro j hj
  have hj := List.mem_range.1 hj
  exact (byteAt_mod n k _ (by omega)).symm

theorem digits_val (l : List UInt8) : digits l.length (val l) = l := by
  induction l with
  | nil => rfl
  | cons b l ih =>
    have hv := val_lt l
    have hp : 0 < 256 ^ l.length := Nat.pow_pos (by decide)
    rw [List.length_cons, digits_succ]
    congr 1
    · apply UInt8.toNat_inj.1
      rw [byteAt_toNat, val_cons, Nat.mul_comm, Nat.mul_add_div hp, Nat.div_eq_of_lt hv, Nat.add_zero]
      exact Nat.mod_eq_of_lt b.toNat_lt
    · rw [digits_mod, val_cons, Nat.mul_comm, Nat.mul_add_mod, Nat.mod_eq_of_lt hv]
      exact ih

theorem once_put (s : ByteArray) (k : Nat) (h : k ≤ s.size) : putB (val (s.data.toList.take k)) k ++ s.extract k s.size = s := by
  have h1 : putB (val (s.data.toList.take k)) k = s.extract 0 k := by
    apply ext_list
    have hl : (s.data.toList.take k).length = k := by rw [List.length_take, size_list]; omega
    have h2 := digits_val (s.data.toList.take k)
    rw [hl] at h2
    rw [putB_data, h2, extract_list]
    simp
  rw [h1, join s k]
theorem once_fits (s : ByteArray) (k : Nat) (h : k ≤ s.size) : val (s.data.toList.take k) < 256 ^ k := by
  have h1 := val_lt (s.data.toList.take k)
  have hl : (s.data.toList.take k).length = k := by rw [List.length_take, size_list]; omega
  rwa [hl] at h1

end Pack
end Go.Proofs.Ytmbddjejbmjmfaa
