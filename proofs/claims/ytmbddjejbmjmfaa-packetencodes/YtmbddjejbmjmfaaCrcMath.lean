/-
  Plain facts on the check sum's register: a shift is linear and one to one, four bytes beside one another can be told from what they make of any register.
  No condition; nothing of the program is named here.
-/
namespace Go.Proofs.Ytmbddjejbmjmfaa
set_option maxRecDepth 10000
namespace Crc

def poly : BitVec 32 := 3988292384#32
def ones : BitVec 32 := 4294967295#32

def sh (r : BitVec 32) : BitVec 32 := if r.getLsbD 0 then (r >>> 1) ^^^ poly else r >>> 1

def shN : Nat → BitVec 32 → BitVec 32
  | 0, r => r
  | n + 1, r => shN n (sh r)

def ext (b : UInt8) : BitVec 32 := b.toBitVec.setWidth 32

def step (r : BitVec 32) (b : UInt8) : BitVec 32 := shN 8 (r ^^^ ext b)

def run (r : BitVec 32) : List UInt8 → BitVec 32
  | [] => r
  | b :: l => run (step r b) l

def sum (l : List UInt8) : BitVec 32 := ~~~ (run ones l)

theorem shN_zero (r : BitVec 32) : shN 0 r = r := rfl
theorem shN_succ (n : Nat) (r : BitVec 32) : shN (n + 1) r = shN n (sh r) := rfl
theorem shN_succ' (n : Nat) (r : BitVec 32) : shN (n + 1) r = sh (shN n r) := by
  induction n generalizing r with
  | zero => rfl
  | succ n ih => rw [shN_succ, ih, shN_succ]
theorem shN_add (m n : Nat) (r : BitVec 32) : shN (m + n) r = shN n (shN m r) := by
  induction m generalizing r with
  | zero => rw [Nat.zero_add, shN_zero]
  | succ m ih => rw [Nat.succ_add, shN_succ, ih, shN_succ]

theorem run_append (r : BitVec 32) (a b : List UInt8) : run r (a ++ b) = run (run r a) b := by
  induction a generalizing r with
  | nil => rfl
  | cons x a ih => exact ih (step r x)
theorem run_snoc (r : BitVec 32) (a : List UInt8) (b : UInt8) : run r (a ++ [b]) = step (run r a) b := by
  rw [run_append]; rfl

theorem sh_xor (a b : BitVec 32) : sh (a ^^^ b) = sh a ^^^ sh b := by
  unfold sh
  rw [BitVec.getLsbD_xor]
  cases a.getLsbD 0 <;> cases b.getLsbD 0 <;> simp only [Bool.xor_false, Bool.xor_true, Bool.not_false, Bool.not_true, Bool.false_eq_true, if_true, if_false, BitVec.ushiftRight_xor_distrib]
  · rw [BitVec.xor_assoc]
  · rw [BitVec.xor_assoc, BitVec.xor_assoc, BitVec.xor_comm (b >>> 1) poly]
  · rw [BitVec.xor_assoc, ← BitVec.xor_assoc poly (b >>> 1) poly, BitVec.xor_comm poly (b >>> 1), BitVec.xor_assoc (b >>> 1) poly poly, BitVec.xor_self, BitVec.xor_zero]

theorem sh_zero : sh 0#32 = 0#32 := by decide

theorem sh_eq_zero (a : BitVec 32) (h : sh a = 0#32) : a = 0#32 := by
  unfold sh at h
  cases h0 : a.getLsbD 0 with
  | true =>
    rw [h0, if_pos rfl] at h
    have h1 := congrArg (fun x : BitVec 32 => x.getLsbD 31) h
    simp only [BitVec.getLsbD_xor, BitVec.getLsbD_ushiftRight, BitVec.getLsbD_zero] at h1
    have h2 : a.getLsbD (1 + 31) = false := BitVec.getLsbD_of_ge a _ (by decide)
    have h3 : poly.getLsbD 31 = true := by decide
    rw [h2, h3] at h1
    cases h1
  | false =>
    rw [h0, if_neg (by decide)] at h
    apply BitVec.eq_of_getLsbD_eq
    intro i hi
    rw [BitVec.getLsbD_zero]
    cases i with
    | zero => exact h0
    | succ i =>
      have h1 := congrArg (fun x : BitVec 32 => x.getLsbD i) h
      simp only [BitVec.getLsbD_ushiftRight, BitVec.getLsbD_zero] at h1
      rw [Nat.add_comm]; exact h1

theorem xor_eq_zero (a b : BitVec 32) (h : a ^^^ b = 0#32) : a = b := by
  have h1 : a ^^^ b ^^^ b = 0#32 ^^^ b := by rw [h]
  rw [BitVec.xor_assoc, BitVec.xor_self, BitVec.xor_zero, BitVec.zero_xor] at h1
  exact h1

theorem sh_inj (a b : BitVec 32) (h : sh a = sh b) : a = b := by
  apply xor_eq_zero
  apply sh_eq_zero
  rw [sh_xor, h, BitVec.xor_self]

theorem shN_inj (n : Nat) (a b : BitVec 32) (h : shN n a = shN n b) : a = b := by
  induction n generalizing a b with
  | zero => exact h
  | succ n ih => exact sh_inj a b (ih _ _ h)

theorem shN_xor (n : Nat) (a b : BitVec 32) : shN n (a ^^^ b) = shN n a ^^^ shN n b := by
  induction n generalizing a b with
  | zero => rfl
  | succ n ih => rw [shN_succ, sh_xor, ih, ← shN_succ, ← shN_succ]

theorem xor_cancel (a b c : BitVec 32) (h : a ^^^ c = b ^^^ c) : a = b := by
  apply xor_eq_zero
  have : (a ^^^ c) ^^^ (b ^^^ c) = a ^^^ b := by
    rw [BitVec.xor_assoc, ← BitVec.xor_assoc c b c, BitVec.xor_comm c b, BitVec.xor_assoc b c c, BitVec.xor_self, BitVec.xor_zero]
  rw [← this, h, BitVec.xor_self]

theorem step_inj (a b : BitVec 32) (x : UInt8) (h : step a x = step b x) : a = b :=
  xor_cancel _ _ _ (shN_inj 8 _ _ h)

theorem run_inj (a b : BitVec 32) (l : List UInt8) (h : run a l = run b l) : a = b := by
  induction l generalizing a b with
  | nil => exact h
  | cons x l ih => exact step_inj a b x (ih _ _ h)

theorem xor3 (a b c : UInt8) : ext (a ^^^ b ^^^ c) = ext a ^^^ ext b ^^^ ext c := by
  unfold ext
  rw [UInt8.toBitVec_xor, UInt8.toBitVec_xor, BitVec.setWidth_xor, BitVec.setWidth_xor]

theorem mix (a b c x y z : BitVec 32) : a ^^^ b ^^^ c ^^^ (x ^^^ y ^^^ z) = (a ^^^ x) ^^^ (b ^^^ y) ^^^ (c ^^^ z) := by
  ac_rfl

theorem step_xor3 (r s t : BitVec 32) (a b c : UInt8) : step (r ^^^ s ^^^ t) (a ^^^ b ^^^ c) = step r a ^^^ step s b ^^^ step t c := by
  unfold step
  rw [xor3, mix, shN_xor, shN_xor]

def xorL : List UInt8 → List UInt8 → List UInt8 → List UInt8
  | a :: l, b :: m, c :: n => (a ^^^ b ^^^ c) :: xorL l m n
  | _, _, _ => []

theorem run_xor3 (l m n : List UInt8) (r s t : BitVec 32) (h1 : l.length = m.length) (h2 : l.length = n.length) :
    run (r ^^^ s ^^^ t) (xorL l m n) = run r l ^^^ run s m ^^^ run t n := by
  induction l generalizing m n r s t with
  | nil =>
    cases m with
    | nil => cases n with
      | nil => rfl
      | cons _ _ => simp at h2
    | cons _ _ => simp at h1
  | cons a l ih =>
    cases m with
    | nil => simp at h1
    | cons b m =>
      cases n with
      | nil => simp at h2
      | cons c n =>
        simp only [List.length_cons, Nat.add_right_cancel_iff] at h1 h2
        show run (step (r ^^^ s ^^^ t) (a ^^^ b ^^^ c)) (xorL l m n) = _
        rw [step_xor3, ih m n _ _ _ h1 h2]; rfl

theorem not_eq_xor (a : BitVec 32) : ~~~ a = a ^^^ ones := by
  have h : ones = BitVec.allOnes 32 := by decide
  rw [h, BitVec.xor_allOnes]

theorem sum_xor3 (l m n : List UInt8) (h1 : l.length = m.length) (h2 : l.length = n.length) :
    sum (xorL l m n) = sum l ^^^ sum m ^^^ sum n := by
  unfold sum
  have h := run_xor3 l m n ones ones ones h1 h2
  have h3 : ones ^^^ ones ^^^ ones = ones := by decide
  rw [h3] at h
  rw [h, not_eq_xor, not_eq_xor, not_eq_xor, not_eq_xor]
  have h4 : ∀ a b c : BitVec 32, (a ^^^ ones) ^^^ (b ^^^ ones) ^^^ (c ^^^ ones) = a ^^^ b ^^^ c ^^^ (ones ^^^ ones ^^^ ones) := by
    intro a b c; ac_rfl
  rw [h4, h3]

theorem sh_shl (y : BitVec 32) (h : y.getLsbD 31 = false) : sh (y <<< 1) = y := by
  unfold sh
  have h0 : (y <<< 1).getLsbD 0 = false := by simp
  rw [h0, if_neg (by decide)]
  apply BitVec.eq_of_getLsbD_eq
  intro i hi
  rw [BitVec.getLsbD_ushiftRight, BitVec.getLsbD_shiftLeft]
  by_cases hi2 : i = 31
  · subst hi2
    rw [h]; decide
  · have : 1 + i < 32 := by omega
    simp [this]

theorem shN_shl (n : Nat) (y : BitVec 32) (h : ∀ i, 32 - n ≤ i → y.getLsbD i = false) : shN n (y <<< n) = y := by
  induction n generalizing y with
  | zero => simp [shN_zero]
  | succ n ih =>
    rw [shN_succ, BitVec.shiftLeft_add, sh_shl, ih y (fun i hi => h i (by omega))]
    rw [BitVec.getLsbD_shiftLeft]
    by_cases hn : 31 < n
    · simp [hn]
    · rw [h (31 - n) (by omega)]; simp

def num (a b c d : UInt8) : BitVec 32 := ext a ^^^ ext b <<< 8 ^^^ ext c <<< 16 ^^^ ext d <<< 24

theorem ext_high (b : UInt8) (i : Nat) (h : 8 ≤ i) : (ext b).getLsbD i = false := by
  unfold ext
  rw [BitVec.getLsbD_setWidth, BitVec.getLsbD_of_ge b.toBitVec i h, Bool.and_false]

theorem run_four (r : BitVec 32) (a b c d : UInt8) : run r [a, b, c, d] = shN 32 (r ^^^ num a b c d) := by
  show step (step (step (step r a) b) c) d = _
  have hb : ext b = shN 8 (ext b <<< 8) := (shN_shl 8 (ext b) (fun i hi => ext_high b i (by omega))).symm
  have hc : ext c = shN 16 (ext c <<< 16) := (shN_shl 16 (ext c) (fun i hi => ext_high c i (by omega))).symm
  have hd : ext d = shN 24 (ext d <<< 24) := (shN_shl 24 (ext d) (fun i hi => ext_high d i (by omega))).symm
  unfold num
  rw [← BitVec.xor_assoc, ← BitVec.xor_assoc, ← BitVec.xor_assoc]
  have e32 : ∀ x, shN 32 x = shN 8 (shN 24 x) := fun x => shN_add 24 8 x
  have e24 : ∀ x, shN 24 x = shN 8 (shN 16 x) := fun x => shN_add 16 8 x
  have e16 : ∀ x, shN 16 x = shN 8 (shN 8 x) := fun x => shN_add 8 8 x
  rw [e32, shN_xor 24 _ (ext d <<< 24), ← hd, e24, shN_xor 16 _ (ext c <<< 16), ← hc, e16, shN_xor 8 _ (ext b <<< 8), ← hb]
  rfl

theorem getLsbD_num (a b c d : UInt8) (i : Nat) (h : i < 32) : (num a b c d).getLsbD i =
    if i < 8 then a.toBitVec.getLsbD i else if i < 16 then b.toBitVec.getLsbD (i - 8) else if i < 24 then c.toBitVec.getLsbD (i - 16) else d.toBitVec.getLsbD (i - 24) := by
  unfold num
  simp only [BitVec.getLsbD_xor, BitVec.getLsbD_shiftLeft]
  have key : ∀ (x : UInt8) (j : Nat), j < 32 → (ext x).getLsbD j = x.toBitVec.getLsbD j := by
    intro x j hj
    unfold ext
    rw [BitVec.getLsbD_setWidth]; simp [hj]
  have z : ∀ (x : UInt8) (j k : Nat), j + 8 ≤ k → (ext x).getLsbD (k - j) = false := fun x j k h => ext_high x _ (by omega)
  by_cases h8 : i < 8
  · have h16 : i < 16 := by omega
    have h24 : i < 24 := by omega
    rw [key a i h]
    simp [h8, h16, h24]
  · rw [ext_high a i (by omega), if_neg h8]
    by_cases h16 : i < 16
    · have h24 : i < 24 := by omega
      rw [key b (i - 8) (by omega)]
      simp [h8, h16, h24, h]
    · rw [z b 8 i (by omega), if_neg h16]
      by_cases h24 : i < 24
      · rw [key c (i - 16) (by omega)]
        simp [h16, h24, h]
      · rw [z c 16 i (by omega), if_neg h24, key d (i - 24) (by omega)]
        simp [h24, h]

theorem num_inj (a b c d a' b' c' d' : UInt8) (h : num a b c d = num a' b' c' d') : a = a' ∧ b = b' ∧ c = c' ∧ d = d' := by
  have hb := fun i (hi : i < 32) => congrArg (fun x : BitVec 32 => x.getLsbD i) h
  refine ⟨?_, ?_, ?_, ?_⟩
  · apply UInt8.eq_of_toBitVec_eq; apply BitVec.eq_of_getLsbD_eq; intro i hi
    have := hb i (by omega)
    simp only [getLsbD_num _ _ _ _ i (by omega)] at this
    rw [if_pos hi, if_pos hi] at this; exact this
  · apply UInt8.eq_of_toBitVec_eq; apply BitVec.eq_of_getLsbD_eq; intro i hi
    have := hb (i + 8) (by omega)
    simp only [getLsbD_num _ _ _ _ (i + 8) (by omega)] at this
    simp only [show ¬ i + 8 < 8 from by omega, show i + 8 < 16 from by omega, if_true, if_false, Nat.add_sub_cancel] at this; exact this
  · apply UInt8.eq_of_toBitVec_eq; apply BitVec.eq_of_getLsbD_eq; intro i hi
    have := hb (i + 16) (by omega)
    simp only [getLsbD_num _ _ _ _ (i + 16) (by omega)] at this
    simp only [show ¬ i + 16 < 8 from by omega, show ¬ i + 16 < 16 from by omega, show i + 16 < 24 from by omega, if_true, if_false, Nat.add_sub_cancel] at this; exact this
  · apply UInt8.eq_of_toBitVec_eq; apply BitVec.eq_of_getLsbD_eq; intro i hi
    have := hb (i + 24) (by omega)
    simp only [getLsbD_num _ _ _ _ (i + 24) (by omega)] at this
    simp only [show ¬ i + 24 < 8 from by omega, show ¬ i + 24 < 16 from by omega, show ¬ i + 24 < 24 from by omega, if_false, Nat.add_sub_cancel] at this; exact this

theorem four_inj (r : BitVec 32) (l m : List UInt8) (h1 : l.length = 4) (h2 : m.length = 4) (h : run r l = run r m) : l = m := by
  match l, m, h1, h2, h with
  | [a, b, c, d], [a', b', c', d'], _, _, h =>
    rw [run_four, run_four] at h
    have h3 := shN_inj 32 _ _ h
    rw [BitVec.xor_comm r, BitVec.xor_comm r] at h3
    obtain ⟨rfl, rfl, rfl, rfl⟩ := num_inj _ _ _ _ _ _ _ _ (xor_cancel _ _ _ h3)
    rfl

theorem short_inj (r : BitVec 32) (l m : List UInt8) (h1 : l.length = m.length) (h2 : l.length ≤ 4) (h : run r l = run r m) : l = m := by
  have h3 := four_inj r (l ++ List.replicate (4 - l.length) 0) (m ++ List.replicate (4 - l.length) 0) (by simp; omega) (by simp; omega) (by rw [run_append, run_append, h])
  exact (List.append_inj h3 h1).1

theorem window (r : BitVec 32) (l m : List UInt8) (k : Nat) (h1 : l.length = m.length) (h2 : l.take k = m.take k) (h3 : l.drop (k + 4) = m.drop (k + 4)) (h : run r l = run r m) : l = m := by
  have e1 : l = l.take k ++ ((l.drop k).take 4 ++ l.drop (k + 4)) := by
    rw [← List.drop_drop, List.take_append_drop, List.take_append_drop]
  have e2 : m = m.take k ++ ((m.drop k).take 4 ++ m.drop (k + 4)) := by
    rw [← List.drop_drop, List.take_append_drop, List.take_append_drop]
  have e3 : (l.drop k).take 4 = (m.drop k).take 4 := by
    rw [e1, e2, run_append, run_append, run_append, run_append, h2, h3] at h
    exact short_inj _ _ _ (by simp [h1]) (by simp; omega) (run_inj _ _ _ h)
  rw [e1, e2, h2, h3, e3]

end Crc
end Go.Proofs.Ytmbddjejbmjmfaa
