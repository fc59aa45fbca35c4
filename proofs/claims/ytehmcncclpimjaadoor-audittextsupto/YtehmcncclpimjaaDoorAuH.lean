/-
  Texts cut into words, numbers and quoted bytes: what follows of how they were written.
  No condition.
-/
import Derived.Test.YtehmcncclpimjaaDoorAuC
namespace Go.Proofs.YtehmcncclpimjaaDoor
set_option maxRecDepth 10000
open Go.RowKit Go.Sort
set_option linter.unusedVariables false
set_option linter.unusedSimpArgs false

/- Pieces of a text. -/
theorem str_take (c : ByteArray) (j : Nat) : c.extract 0 j = strB ((bL c).take j) := by
  apply bL_inj
  show (c.extract 0 j).data.toList = (bL c).take j
  rw [Lib.extract_data, Nat.sub_zero, List.drop_zero]
  rfl
theorem str_drop (c : ByteArray) (j : Nat) : c.extract j c.size = strB ((bL c).drop j) := by
  apply bL_inj
  show (c.extract j c.size).data.toList = (bL c).drop j
  rw [Lib.extract_data]
  refine List.take_of_length_le ?_
  rw [List.length_drop]
  show (bL c).length - j ≤ _
  rw [bL_len]
  exact Nat.le_refl _
theorem sl_take (c : ByteArray) (j : Nat) (hj : j ≤ c.size) (q : IntKind) (W : World) : (Instr.slice 9 (.string c) none (some (.int q (j : Int))) none).run Tryd.prog W = .ok (.string (strB ((bL c).take j))) W := by
  rw [run_slice_string_h W 9 c Tryd.underlying9 q (j : Int) (by omega) (by omega), show ((j : Int)).toNat = j by omega, str_take]
theorem sl_drop (c : ByteArray) (j : Nat) (hj : j ≤ c.size) (q : IntKind) (i : Int) (hi : i = (j : Int)) (W : World) : (Instr.slice 9 (.string c) (some (.int q i)) none none).run Tryd.prog W = .ok (.string (strB ((bL c).drop j))) W := by
  subst hi
  rw [run_slice_string_l W 9 c Tryd.underlying9 q (j : Int) (by omega) (by omega), show ((j : Int)).toNat = j by omega, str_drop]
theorem strB_of {c : ByteArray} {l : List UInt8} (h : bL c = l) : c = strB l := by rw [← h, strB_bL]
/- Two texts compared. -/
theorem same_L (a b : ByteArray) (c : Bool) (h : decide (bL a = bL b) = c) : (a.toList == b.toList) = c := by
  rw [ByteArray.toList_eq, ByteArray.toList_eq]
  subst h
  by_cases h : bL a = bL b
  · rw [decide_eq_true h]
    show (bL a == bL b) = true
    rw [h]
    simp
  · rw [decide_eq_false h]
    show (bL a == bL b) = false
    simpa using h

/- A word up to the first blank, and what is behind it. -/
def wordL : List UInt8 → List UInt8 × List UInt8 × Bool
  | [] => ([], [], false)
  | b :: l => if b = 32 then ([], l, true) else if (wordL l).2.2 = true then (b :: (wordL l).1, (wordL l).2.1, true) else ([], [], false)
theorem wordL_cut : ∀ {a r : List UInt8}, (32 : UInt8) ∉ a → wordL (a ++ 32 :: r) = (a, r, true)
  | [], r, _ => by simp [wordL]
  | b :: a, r, h => by
    have ih := wordL_cut (a := a) (r := r) (fun k => h (by simp [k]))
    have hb : b ≠ 32 := fun k => h (by simp [k])
    simp [wordL, hb, ih]
theorem wordL_none : ∀ {a : List UInt8}, (32 : UInt8) ∉ a → wordL a = ([], [], false)
  | [], _ => rfl
  | b :: a, h => by
    have ih := wordL_none (a := a) (fun k => h (by simp [k]))
    have hb : b ≠ 32 := fun k => h (by simp [k])
    simp [wordL, hb, ih]
theorem wordL_hit {l : List UInt8} {j : Nat} (hn : (32 : UInt8) ∉ l.take j) (h : l[j]? = some 32) : wordL l = (l.take j, l.drop (j + 1), true) := by
  have e : l = l.take j ++ 32 :: l.drop (j + 1) := by
    obtain ⟨h1, h2⟩ := List.getElem?_eq_some_iff.1 h
    rw [← h2, ← List.drop_eq_getElem_cons h1, List.take_append_drop]
  have := wordL_cut (a := l.take j) (r := l.drop (j + 1)) hn
  rw [← e] at this
  exact this
theorem wordL_len (l : List UInt8) : (wordL l).1.length ≤ l.length ∧ (wordL l).2.1.length ≤ l.length := by
  induction l with
  | nil => exact ⟨Nat.le_refl _, Nat.le_refl _⟩
  | cons b l ih =>
    unfold wordL
    split
    · simp
    · split
      · simp only [List.length_cons]; omega
      · simp
theorem no_snoc {x b : UInt8} {l : List UInt8} {j : Nat} (hn : x ∉ l.take j) (h : l[j]? = some b) (hb : b ≠ x) : x ∉ l.take (j + 1) := by
  rw [List.take_add_one, h]
  intro hm
  rcases List.mem_append.1 hm with hm | hm
  · exact hn hm
  · simp at hm
    exact hb hm.symm

/- Numbers of digits. -/
theorem numL_take {l : List UInt8} {j : Nat} {b : UInt8} (h : l[j]? = some b) : numL (l.take (j + 1)) = 10 * numL (l.take j) + (b.toNat - 48) := by
  rw [List.take_add_one, h]
  exact numL_snoc _ _

/- A digit to the base 16. -/
def valI (c : UInt8) : Int := if 48 ≤ c.toNat ∧ c.toNat ≤ 57 then (c.toNat : Int) - 48 else if 97 ≤ c.toNat ∧ c.toNat ≤ 102 then (c.toNat : Int) - 87 else -1
theorem valI_hex : ∀ k : Fin 16, valI (hex k.val) = (k.val : Int) := by decide
theorem valI_hex' (k : Nat) (h : k < 16) : valI (hex k) = (k : Int) := valI_hex ⟨k, h⟩
theorem valI_or (c : UInt8) : valI c = -1 ∨ ∃ k, k < 16 ∧ hex k = c ∧ valI c = (k : Int) := by
  unfold valI
  split
  · rename_i h
    refine .inr ⟨c.toNat - 48, by omega, ?_, by omega⟩
    apply UInt8.toNat_inj.1
    rw [hex_nat]
    split <;> omega
  · split
    · rename_i h
      refine .inr ⟨c.toNat - 87, by omega, ?_, by omega⟩
      apply UInt8.toNat_inj.1
      rw [hex_nat]
      split <;> omega
    · exact .inl rfl
theorem valI_none {c : UInt8} (h : ∀ k, k < 16 → hex k ≠ c) : valI c = -1 := by
  rcases valI_or c with h1 | ⟨k, h1, h2, _⟩
  · exact h1
  · exact absurd h2 (h k h1)

/- A call's bytes, as a line has them, taken apart. -/
theorem plain_ne {y : UInt8} (h : plainQ y = true) : y ≠ 37 := fun e => by subst e; cases h
theorem quo_head {l r : List UInt8} {x : UInt8} (hx : x ≠ 37) (h : quo l = x :: r) : ∃ l', l = x :: l' ∧ quo l' = r := by
  cases l with
  | nil => cases h
  | cons y l =>
    rw [quo_cons] at h
    unfold quo1 at h
    split at h
    · exact ⟨l, by rw [(List.cons.inj h).1], (List.cons.inj h).2⟩
    · exact absurd (List.cons.inj h).1.symm hx
theorem quo_pct {l r : List UInt8} (h : quo l = 37 :: r) : ∃ y l', l = y :: l' ∧ r = hex (y.toNat / 16) :: hex (y.toNat % 16) :: quo l' := by
  cases l with
  | nil => cases h
  | cons y l =>
    rw [quo_cons] at h
    unfold quo1 at h
    split at h
    · rename_i hp
      exact absurd (List.cons.inj h).1 (plain_ne hp)
    · exact ⟨y, l, rfl, (List.cons.inj h).2.symm⟩
theorem quo_plain : ∀ {l a r : List UInt8}, (37 : UInt8) ∉ a → quo l = a ++ r → ∃ l', l = a ++ l' ∧ quo l' = r
  | l, [], r, _, h => ⟨l, rfl, h⟩
  | l, x :: a, r, hn, h => by
    obtain ⟨l1, h1, h2⟩ := quo_head (fun e => hn (by simp [e])) (h : quo l = x :: (a ++ r))
    obtain ⟨l2, h3, h4⟩ := quo_plain (fun k => hn (by simp [k])) h2
    exact ⟨l2, by rw [h1, h3]; rfl, h4⟩
theorem drop_cons {l : List UInt8} {j : Nat} {x : UInt8} (h : l[j]? = some x) : l.drop j = x :: l.drop (j + 1) := by
  obtain ⟨h1, h2⟩ := List.getElem?_eq_some_iff.1 h
  rw [List.drop_eq_getElem_cons h1, h2]

/- What a text says, as a record that fits; as an audit of such. -/
def IsLn (s : List UInt8) (o : Option Rc) : Prop := match o with | some r => r.fit ∧ lineL r = s | none => ∀ r : Rc, r.fit → lineL r ≠ s
theorem IsLn.one {s : List UInt8} {o p : Option Rc} (h : IsLn s o) (k : IsLn s p) : o = p := by
  cases o <;> cases p
  · rfl
  · exact absurd k.2 (h _ k.1)
  · exact absurd h.2 (k _ h.1)
  · rw [lineL_inj (h.2.trans k.2.symm)]
def IsTx (s : List UInt8) (o : Option (List Rc)) : Prop := match o with | some L => (∀ r ∈ L, r.fit) ∧ chkA L = true ∧ textL L = s | none => ∀ L : List Rc, (∀ r ∈ L, r.fit) → chkA L = true → textL L ≠ s
theorem IsTx.one {s : List UInt8} {o p : Option (List Rc)} (h : IsTx s o) (k : IsTx s p) : o = p := by
  cases o <;> cases p
  · rfl
  · exact absurd k.2.2 (h _ k.1 k.2.1)
  · exact absurd h.2.2 (k _ h.1 h.2.1)
  · rw [textL_inj (h.2.2.trans k.2.2.symm)]

end Go.Proofs.YtehmcncclpimjaaDoor
