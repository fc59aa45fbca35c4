/-
  Numbers in digits, to the base 10, and 16; words up to a byte; bytes as a line has them: what follows of them.
  No condition.
-/
import Derived.Test.YtiepdfngjfhadaaDoorBk
namespace Go.Proofs.YtiepdfngjfhadaaDoor
set_option maxRecDepth 10000
open Go.RowKit Go.Sort

/- A digit's byte, and its number. -/
def dig (n : Nat) : UInt8 := UInt8.ofNat (48 + n % 10)
def isDig (b : UInt8) : Bool := decide (48 ≤ b.toNat ∧ b.toNat ≤ 57)
theorem dig_nat (n : Nat) : (dig n).toNat = 48 + n % 10 := by
  unfold dig
  rw [UInt8.toNat_ofNat']
  omega
theorem dig_is (n : Nat) : isDig (dig n) = true := by
  unfold isDig
  rw [decide_eq_true_eq, dig_nat]
  omega
theorem dig_of (b : UInt8) (h : isDig b = true) : dig (b.toNat - 48) = b := by
  unfold isDig at h
  rw [decide_eq_true_eq] at h
  apply UInt8.toNat_inj.1
  rw [dig_nat]
  omega
/- A natural in digits. -/
def digsTo : Nat → Nat → List UInt8
  | 0, n => [dig n]
  | k + 1, n => if n < 10 then [dig n] else digsTo k (n / 10) ++ [dig n]
theorem digsTo_eq : ∀ (k j n : Nat), n ≤ k → n ≤ j → digsTo k n = digsTo j n
  | 0, 0, n, _, _ => rfl
  | 0, j + 1, n, h, _ => by
    have e : n = 0 := by omega
    subst e
    rfl
  | k + 1, 0, n, _, h => by
    have e : n = 0 := by omega
    subst e
    rfl
  | k + 1, j + 1, n, h, h' => by
    show (if n < 10 then [dig n] else digsTo k (n / 10) ++ [dig n]) = if n < 10 then [dig n] else digsTo j (n / 10) ++ [dig n]
    by_cases h9 : n < 10
    · rw [if_pos h9, if_pos h9]
    · rw [if_neg h9, if_neg h9, digsTo_eq k j (n / 10) (by omega) (by omega)]
def digs (n : Nat) : List UInt8 := digsTo n n
def numL (l : List UInt8) : Nat := l.foldl (fun a b => 10 * a + (b.toNat - 48)) 0
theorem digs_lt {n : Nat} (h : n < 10) : digs n = [dig n] := by
  cases n with
  | zero => rfl
  | succ n =>
    show (if n + 1 < 10 then [dig (n + 1)] else digsTo n ((n + 1) / 10) ++ [dig (n + 1)]) = _
    rw [if_pos h]
theorem digs_ge {n : Nat} (h : ¬ n < 10) : digs n = digs (n / 10) ++ [dig n] := by
  cases n with
  | zero => omega
  | succ n =>
    show (if n + 1 < 10 then [dig (n + 1)] else digsTo n ((n + 1) / 10) ++ [dig (n + 1)]) = _
    rw [if_neg h, digsTo_eq n ((n + 1) / 10) ((n + 1) / 10) (by omega) (Nat.le_refl _)]
    rfl
theorem numL_snoc (l : List UInt8) (b : UInt8) : numL (l ++ [b]) = 10 * numL l + (b.toNat - 48) := by
  unfold numL
  rw [List.foldl_append]
  rfl
theorem numL_digs (n : Nat) : numL (digs n) = n := by
  induction n using Nat.strongRecOn with
  | ind n ih =>
    by_cases h : n < 10
    · rw [digs_lt h]
      show 10 * 0 + ((dig n).toNat - 48) = n
      rw [dig_nat]
      omega
    · rw [digs_ge h, numL_snoc, ih (n / 10) (by omega), dig_nat]
      omega
theorem digs_inj {n m : Nat} (h : digs n = digs m) : n = m := by rw [← numL_digs n, h, numL_digs]
theorem digs_is (n : Nat) : ∀ b ∈ digs n, isDig b = true := by
  induction n using Nat.strongRecOn with
  | ind n ih =>
    by_cases h : n < 10
    · rw [digs_lt h]
      intro b hb
      rw [List.mem_singleton] at hb
      rw [hb]
      exact dig_is n
    · rw [digs_ge h]
      intro b hb
      rcases List.mem_append.1 hb with hb | hb
      · exact ih (n / 10) (by omega) b hb
      · rw [List.mem_singleton] at hb
        rw [hb]
        exact dig_is n
theorem digs_ne (n : Nat) : digs n ≠ [] := by
  by_cases h : n < 10
  · rw [digs_lt h]; simp
  · rw [digs_ge h]; simp
theorem digs_len_pos (n : Nat) : 1 ≤ (digs n).length := List.length_pos_iff.2 (digs_ne n)
/- How many digits. -/
theorem digs_len (n k : Nat) (hk : 1 ≤ k) : (digs n).length ≤ k ↔ n < 10 ^ k := by
  induction k generalizing n with
  | zero => omega
  | succ k ih =>
    by_cases h : n < 10
    · rw [digs_lt h]
      have : 10 ^ 1 ≤ 10 ^ (k + 1) := Nat.pow_le_pow_right (by decide) (by omega)
      simp
      omega
    · rw [digs_ge h, List.length_append, List.length_singleton]
      by_cases hk0 : k = 0
      · subst hk0
        have h1 := digs_len_pos (n / 10)
        rw [show 10 ^ (0 + 1) = 10 from rfl]
        omega
      · rw [show (digs (n / 10)).length + 1 ≤ k + 1 ↔ (digs (n / 10)).length ≤ k by omega, ih (n / 10) (by omega), Nat.pow_succ]
        omega
theorem digs_20 {n : Nat} (h : n < 18446744073709551616) : (digs n).length ≤ 20 := (digs_len n 20 (by decide)).2 (by omega)
/- No needless 0 ahead. -/
theorem digs_head (n : Nat) : ∃ b l, digs n = b :: l ∧ (b.toNat = 48 → l = []) := by
  induction n using Nat.strongRecOn with
  | ind n ih =>
    by_cases h : n < 10
    · exact ⟨dig n, [], digs_lt h, fun _ => rfl⟩
    · obtain ⟨b, l, h1, h2⟩ := ih (n / 10) (by omega)
      refine ⟨b, l ++ [dig n], by rw [digs_ge h, h1]; rfl, fun hb => ?_⟩
      exfalso
      have hl := h2 hb
      subst hl
      have h3 := numL_digs (n / 10)
      rw [h1] at h3
      have h4 : numL [b] = 10 * 0 + (b.toNat - 48) := rfl
      omega
/- Digits without a needless 0 ahead are those of their number. -/
theorem numL_pos {b : UInt8} (hb : 48 < b.toNat) : ∀ (l : List UInt8), 1 ≤ numL (b :: l) := by
  intro l
  have hg : ∀ (l : List UInt8) (a : Nat), 1 ≤ a → 1 ≤ l.foldl (fun a b => 10 * a + (b.toNat - 48)) a := by
    intro l
    induction l with
    | nil => intro a h; exact h
    | cons x l ih => intro a h; exact ih _ (show 1 ≤ 10 * a + (x.toNat - 48) by omega)
  exact hg l _ (show 1 ≤ 10 * 0 + (b.toNat - 48) by omega)
theorem digs_numL : ∀ (k : Nat) (l : List UInt8), l.length = k → l ≠ [] → (∀ b ∈ l, isDig b = true) → (∀ b r, l = b :: r → b.toNat = 48 → r = []) → digs (numL l) = l
  | 0, l, hl, hne, _, _ => absurd (List.length_eq_zero_iff.1 hl) hne
  | k + 1, l, hl, hne, hd, hz => by
    obtain ⟨r, x, rfl⟩ : ∃ r x, l = r ++ [x] := ⟨l.dropLast, l.getLast hne, (List.dropLast_concat_getLast hne).symm⟩
    have hx := hd x (by simp)
    have hx' := hx
    unfold isDig at hx'
    rw [decide_eq_true_eq] at hx'
    rw [numL_snoc]
    cases r with
    | nil =>
      show digs (10 * 0 + (x.toNat - 48)) = [x]
      rw [digs_lt (by omega)]
      congr 1
      rw [Nat.mul_zero, Nat.zero_add]
      exact dig_of x hx
    | cons b r =>
      have hb0 : b.toNat ≠ 48 := fun h => by
        have := hz b (r ++ [x]) rfl h
        simp at this
      have hb := hd b (by simp)
      unfold isDig at hb
      rw [decide_eq_true_eq] at hb
      have hp := numL_pos (b := b) (by omega) r
      have ih := digs_numL k (b :: r) (by simp at hl ⊢; omega) (by simp) (fun y hy => hd y (List.mem_append.2 (.inl hy))) (fun c s hc h48 => by
        cases hc
        exact absurd h48 hb0)
      rw [digs_ge (by omega), show (10 * numL (b :: r) + (x.toNat - 48)) / 10 = numL (b :: r) by omega, ih]
      congr 2
      rw [← dig_of x hx]
      apply UInt8.toNat_inj.1
      rw [dig_nat, dig_nat]
      omega
/- A whole number, with a minus ahead where it is below 0. -/
def sgns (k : Int) : List UInt8 := if k < 0 then 45 :: digs k.natAbs else digs k.natAbs
theorem dig_ne45 {b : UInt8} (h : isDig b = true) : b ≠ 45 := by
  rintro rfl
  cases h
theorem sgns_inj {k j : Int} (h : sgns k = sgns j) : k = j := by
  unfold sgns at h
  obtain ⟨b, l, h1, _⟩ := digs_head k.natAbs
  obtain ⟨c, r, h2, _⟩ := digs_head j.natAbs
  have hb := dig_ne45 (digs_is k.natAbs b (by rw [h1]; simp))
  have hc := dig_ne45 (digs_is j.natAbs c (by rw [h2]; simp))
  split at h <;> split at h
  · have := digs_inj (List.cons.inj h).2
    omega
  · rw [h2] at h
    exact absurd (List.cons.inj h).1.symm hc
  · rw [h1] at h
    exact absurd (List.cons.inj h).1 hb
  · have := digs_inj h
    omega
theorem sgns_no {x : UInt8} (hx : isDig x = false) (h45 : x ≠ 45) (k : Int) : x ∉ sgns k := by
  intro hm
  unfold sgns at hm
  split at hm
  · rcases List.mem_cons.1 hm with h | h
    · exact h45 h
    · rw [digs_is _ _ h] at hx
      cases hx
  · rw [digs_is _ _ hm] at hx
    cases hx
theorem digs_no {x : UInt8} (hx : isDig x = false) (n : Nat) : x ∉ digs n := by
  intro hm
  rw [digs_is _ _ hm] at hx
  cases hx
/- A word up to the first x. -/
theorem cut_inj {x : UInt8} : ∀ {a b r s : List UInt8}, x ∉ a → x ∉ b → a ++ x :: r = b ++ x :: s → a = b ∧ r = s
  | [], [], r, s, _, _, h => ⟨rfl, (List.cons.inj h).2⟩
  | [], c :: b, r, s, _, hb, h => by
    have := (List.cons.inj h).1
    exact absurd (by rw [this]; simp) hb
  | c :: a, [], r, s, ha, _, h => by
    have := (List.cons.inj h).1
    exact absurd (by rw [this]; simp) ha
  | c :: a, e :: b, r, s, ha, hb, h => by
    have h' := List.cons.inj h
    obtain ⟨h1, h2⟩ := cut_inj (fun k => ha (by simp [k])) (fun k => hb (by simp [k])) h'.2
    exact ⟨by rw [h'.1, h1], h2⟩
/- Digits to the base 16. -/
def hex (n : Nat) : UInt8 := if n % 16 < 10 then UInt8.ofNat (48 + n % 16) else UInt8.ofNat (87 + n % 16)
theorem hex_nat (n : Nat) : (hex n).toNat = if n % 16 < 10 then 48 + n % 16 else 87 + n % 16 := by
  unfold hex
  split
  · rw [UInt8.toNat_ofNat']; omega
  · rw [UInt8.toNat_ofNat']; omega
theorem hex_inj {n m : Nat} (h : hex n = hex m) : n % 16 = m % 16 := by
  have := congrArg UInt8.toNat h
  rw [hex_nat, hex_nat] at this
  split at this <;> split at this <;> omega
/- A call's bytes, as a line has them. -/
def plainQ (b : UInt8) : Bool := !(decide (b.toNat < 32) || decide (126 < b.toNat) || decide (b = 34) || decide (b = 37))
def quo1 (b : UInt8) : List UInt8 := if plainQ b = true then [b] else [37, hex (b.toNat / 16), hex (b.toNat % 16)]
def quo (l : List UInt8) : List UInt8 := l.flatMap quo1
theorem quo_nil : quo [] = [] := rfl
theorem quo_cons (b : UInt8) (l : List UInt8) : quo (b :: l) = quo1 b ++ quo l := rfl
theorem quo_append (a b : List UInt8) : quo (a ++ b) = quo a ++ quo b := by unfold quo; rw [List.flatMap_append]
theorem quo1_len (b : UInt8) : (quo1 b).length ≤ 3 ∧ 1 ≤ (quo1 b).length := by unfold quo1; split <;> simp
theorem quo_len : ∀ l : List UInt8, (quo l).length ≤ 3 * l.length
  | [] => by simp [quo]
  | b :: l => by
    rw [quo_cons, List.length_append, List.length_cons]
    have := quo_len l
    have := (quo1_len b).1
    omega
theorem quo1_mem {b x : UInt8} (h : x ∈ quo1 b) : 32 ≤ x.toNat ∧ x.toNat ≤ 126 ∧ x ≠ 34 := by
  unfold quo1 at h
  split at h
  · rename_i hp
    rw [List.mem_singleton] at h
    subst h
    unfold plainQ at hp
    simp at hp
    exact ⟨by omega, by omega, hp.1.2⟩
  · have hh : ∀ n, 32 ≤ (hex n).toNat ∧ (hex n).toNat ≤ 126 ∧ hex n ≠ 34 := fun n => by
      have := hex_nat n
      have h16 : n % 16 < 16 := Nat.mod_lt _ (by decide)
      refine ⟨by split at this <;> omega, by split at this <;> omega, fun e => ?_⟩
      rw [e] at this
      have h34 : (34 : UInt8).toNat = 34 := rfl
      split at this <;> omega
    rcases List.mem_cons.1 h with h | h
    · subst h; decide
    · rcases List.mem_cons.1 h with h | h
      · subst h; exact hh _
      · rw [List.mem_singleton] at h
        subst h; exact hh _
theorem quo_mem {l : List UInt8} {x : UInt8} (h : x ∈ quo l) : 32 ≤ x.toNat ∧ x.toNat ≤ 126 ∧ x ≠ 34 := by
  unfold quo at h
  rw [List.mem_flatMap] at h
  obtain ⟨b, _, hb⟩ := h
  exact quo1_mem hb
theorem quo1_inj {b c : UInt8} {r s : List UInt8} (h : quo1 b ++ r = quo1 c ++ s) : b = c ∧ r = s := by
  have hp : ∀ b : UInt8, plainQ b = true → b ≠ 37 := fun b hb e => by
    subst e
    cases hb
  unfold quo1 at h
  split at h <;> split at h
  · exact List.cons.inj h
  · rename_i h1 _
    exact absurd (List.cons.inj h).1 (hp b h1)
  · rename_i _ h1
    exact absurd (List.cons.inj h).1.symm (hp c h1)
  · simp only [List.cons_append, List.nil_append, List.cons.injEq, true_and] at h
    obtain ⟨h1, h2, h3⟩ := h
    have e1 := hex_inj h1
    have e2 := hex_inj h2
    refine ⟨UInt8.toNat_inj.1 ?_, h3⟩
    have := b.toNat_lt
    have := c.toNat_lt
    omega
theorem quo1_ne (b : UInt8) : quo1 b ≠ [] := by unfold quo1; split <;> simp
theorem quo_inj : ∀ {a b : List UInt8}, quo a = quo b → a = b
  | [], [], _ => rfl
  | [], c :: b, h => by
    rw [quo_cons, quo_nil] at h
    exact absurd (List.append_eq_nil_iff.1 h.symm).1 (quo1_ne c)
  | c :: a, [], h => by
    rw [quo_cons, quo_nil] at h
    exact absurd (List.append_eq_nil_iff.1 h).1 (quo1_ne c)
  | c :: a, e :: b, h => by
    rw [quo_cons, quo_cons] at h
    obtain ⟨h1, h2⟩ := quo1_inj h
    rw [h1, quo_inj h2]
/- A text as its bytes. -/
def bL (b : ByteArray) : List UInt8 := b.data.toList
theorem bL_inj {a b : ByteArray} (h : bL a = bL b) : a = b := ByteArray.ext (Array.ext' h)

end Go.Proofs.YtiepdfngjfhadaaDoor
