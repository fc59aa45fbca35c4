/-
  Ids stand in a total order.
  No condition.
-/
import Derived.Test.YtbmhfnallpcmpaaImA
namespace Go.Proofs.Ytbmhfnallpcmpaa
set_option maxRecDepth 10000
open Go.RowKit Go.Sort

def Idn.lt (a b : Idn) : Prop := a.e < b.e ∨ (a.e = b.e ∧ (a.c < b.c ∨ (a.c = b.c ∧ a.i < b.i)))

theorem cmpN_cases (x y : Nat) : (x < y ∧ cmpN x y = -1) ∨ (y < x ∧ cmpN x y = 1) ∨ (x = y ∧ cmpN x y = 0) := by
  unfold cmpN
  by_cases h1 : x < y
  · exact .inl ⟨h1, by simp [h1]⟩
  · by_cases h2 : y < x
    · exact .inr (.inl ⟨h2, by simp [h1, h2]⟩)
    · exact .inr (.inr ⟨by omega, by simp [h1, h2]⟩)
theorem cmpId_cases (a b : Idn) : (a.lt b ∧ cmpId a b = -1) ∨ (b.lt a ∧ cmpId a b = 1) ∨ (a = b ∧ cmpId a b = 0) := by
  unfold cmpId Idn.lt
  rcases cmpN_cases a.e b.e with ⟨h1, e1⟩ | ⟨h1, e1⟩ | ⟨h1, e1⟩
  · left; exact ⟨.inl h1, by rw [e1]; rfl⟩
  · right; left; exact ⟨.inl h1, by rw [e1]; rfl⟩
  · rcases cmpN_cases a.c b.c with ⟨h2, e2⟩ | ⟨h2, e2⟩ | ⟨h2, e2⟩
    · left; exact ⟨.inr ⟨h1, .inl h2⟩, by rw [e1, e2]; rfl⟩
    · right; left; exact ⟨.inr ⟨h1.symm, .inl h2⟩, by rw [e1, e2]; rfl⟩
    · rcases cmpN_cases a.i b.i with ⟨h3, e3⟩ | ⟨h3, e3⟩ | ⟨h3, e3⟩
      · left; exact ⟨.inr ⟨h1, .inr ⟨h2, h3⟩⟩, by rw [e1, e2, e3]; rfl⟩
      · right; left; exact ⟨.inr ⟨h1.symm, .inr ⟨h2.symm, h3⟩⟩, by rw [e1, e2, e3]; rfl⟩
      · right; right
        refine ⟨?_, by rw [e1, e2, e3]; rfl⟩
        cases a; cases b
        simp_all
theorem Idn.lt_irrefl (a : Idn) : ¬ a.lt a := by unfold Idn.lt; omega
theorem Idn.lt_asymm {a b : Idn} (h : a.lt b) : ¬ b.lt a := by unfold Idn.lt at *; omega
theorem Idn.lt_trans {a b c : Idn} (h : a.lt b) (k : b.lt c) : a.lt c := by unfold Idn.lt at *; omega
theorem cmpId_lt {a b : Idn} : cmpId a b < 0 ↔ a.lt b := by
  rcases cmpId_cases a b with ⟨h, e⟩ | ⟨h, e⟩ | ⟨h, e⟩
  · simp [h, e]
  · simp [e, Idn.lt_asymm h]
  · subst h; simp [e, Idn.lt_irrefl]
theorem cmpId_gt {a b : Idn} : 0 < cmpId a b ↔ b.lt a := by
  rcases cmpId_cases a b with ⟨h, e⟩ | ⟨h, e⟩ | ⟨h, e⟩
  · simp [e, Idn.lt_asymm h]
  · simp [h, e]
  · subst h; simp [e, Idn.lt_irrefl]
theorem cmpId_self (a : Idn) : cmpId a a = 0 := by
  rcases cmpId_cases a a with ⟨h, e⟩ | ⟨h, e⟩ | ⟨h, e⟩
  · exact absurd h (Idn.lt_irrefl a)
  · exact absurd h (Idn.lt_irrefl a)
  · exact e

/- How two stand, the other way round, and whether they are the same. -/
theorem cmpId_two (a b : Idn) : (cmpId a b = -1 ∧ cmpId b a = 1 ∧ Idn.same a b = false) ∨ (cmpId a b = 1 ∧ cmpId b a = -1 ∧ Idn.same a b = false) ∨ (cmpId a b = 0 ∧ cmpId b a = 0 ∧ Idn.same a b = true) := by
  have hs : ∀ {a b : Idn}, a.lt b → Idn.same a b = false := by
    intro a b h
    rw [Bool.eq_false_iff]
    intro e
    rw [Idn.same_iff] at e
    subst e
    exact Idn.lt_irrefl _ h
  have hs' : ∀ {a b : Idn}, b.lt a → Idn.same a b = false := by
    intro a b h
    rw [Bool.eq_false_iff]
    intro e
    rw [Idn.same_iff] at e
    subst e
    exact Idn.lt_irrefl _ h
  rcases cmpId_cases a b with ⟨h, e⟩ | ⟨h, e⟩ | ⟨h, e⟩
  · left
    refine ⟨e, ?_, hs h⟩
    rcases cmpId_cases b a with ⟨h', e'⟩ | ⟨_, e'⟩ | ⟨h', _⟩
    · exact absurd h' (Idn.lt_asymm h)
    · exact e'
    · subst h'; exact absurd h (Idn.lt_irrefl _)
  · right; left
    refine ⟨e, ?_, hs' h⟩
    rcases cmpId_cases b a with ⟨_, e'⟩ | ⟨h', e'⟩ | ⟨h', _⟩
    · exact e'
    · exact absurd h' (Idn.lt_asymm h)
    · subst h'; exact absurd h (Idn.lt_irrefl _)
  · subst h
    exact .inr (.inr ⟨e, e, Idn.same_self _⟩)
theorem cmpId_three (a b c : Idn) : (cmpId a b ≤ 0 → cmpId b c ≤ 0 → cmpId a c ≤ 0 ∧ (cmpId a c = 0 → cmpId a b = 0 ∧ cmpId b c = 0)) ∧ (0 ≤ cmpId a b → 0 ≤ cmpId b c → 0 ≤ cmpId a c) := by
  rcases cmpId_cases a b with ⟨h, e⟩ | ⟨h, e⟩ | ⟨h, e⟩
  · rcases cmpId_cases b c with ⟨k, f⟩ | ⟨k, f⟩ | ⟨k, f⟩
    · rcases cmpId_cases a c with ⟨l, g⟩ | ⟨l, g⟩ | ⟨l, g⟩
      · rw [e, f, g]; omega
      · exact absurd l (Idn.lt_asymm (Idn.lt_trans h k))
      · subst l; exact absurd (Idn.lt_trans h k) (Idn.lt_irrefl _)
    · rw [e, f]; omega
    · subst k; rw [e, f]; omega
  · rcases cmpId_cases b c with ⟨k, f⟩ | ⟨k, f⟩ | ⟨k, f⟩
    · rw [e, f]; omega
    · rcases cmpId_cases a c with ⟨l, g⟩ | ⟨l, g⟩ | ⟨l, g⟩
      · exact absurd l (Idn.lt_asymm (Idn.lt_trans k h))
      · rw [e, f, g]; omega
      · subst l; exact absurd (Idn.lt_trans h k) (Idn.lt_irrefl _)
    · subst k; rw [e, f]; omega
  · subst h
    rw [e]
    omega

theorem Idn.zero_le (a : Idn) : ¬ a.lt Idn.zero := by
  show ¬ (a.e < 0 ∨ (a.e = 0 ∧ (a.c < 0 ∨ (a.c = 0 ∧ a.i < 0))))
  omega
theorem Idn.le_trans {a b c : Idn} (h : ¬ b.lt a) (k : ¬ c.lt b) : ¬ c.lt a := by
  intro l
  have h1 := (cmpId_three a b c).1
  have e1 : cmpId a b ≤ 0 := by
    rcases cmpId_cases a b with ⟨_, e⟩ | ⟨h', _⟩ | ⟨_, e⟩
    · omega
    · exact absurd h' h
    · omega
  have e2 : cmpId b c ≤ 0 := by
    rcases cmpId_cases b c with ⟨_, e⟩ | ⟨h', _⟩ | ⟨_, e⟩
    · omega
    · exact absurd h' k
    · omega
  have e3 := cmpId_gt.2 l
  have := (h1 e1 e2).1
  omega

end Go.Proofs.Ytbmhfnallpcmpaa
