/-
  What is told of counts and members: the least count, who may send.
  No condition.
-/
import Derived.Test.YtmnpbjaofemelaaRd
import Derived.Test.YtmnpbjaofemelaaIsM
namespace Go.Proofs.Ytmnpbjaofemelaa
set_option maxRecDepth 10000
open Go.RowKit Go.Sort

def fm (c : Nat → Nat) (a : Nat) (L : List Nat) : Nat := L.foldl (fun a d => min a (c d)) a
def leastL (c : Nat → Nat) : List Nat → Nat
  | [] => 0
  | x :: l => fm c (c x) l
def leastC (c m : Nat → Nat) : Nat := leastL c (lst m)

theorem fm_le (c : Nat → Nat) : ∀ (L : List Nat) (a : Nat), fm c a L ≤ a
  | [], _ => Nat.le_refl _
  | x :: l, a => Nat.le_trans (fm_le c l (min a (c x))) (Nat.min_le_left _ _)
theorem fm_le_mem (c : Nat → Nat) : ∀ (L : List Nat) (a d : Nat), d ∈ L → fm c a L ≤ c d
  | [], a, d, h => by cases h
  | x :: l, a, d, h => by
    rcases List.mem_cons.1 h with rfl | h
    · exact Nat.le_trans (fm_le c l (min a (c d))) (Nat.min_le_right _ _)
    · exact fm_le_mem c l (min a (c x)) d h
theorem fm_is (c : Nat → Nat) : ∀ (L : List Nat) (a : Nat), fm c a L = a ∨ ∃ d ∈ L, c d = fm c a L
  | [], a => .inl rfl
  | x :: l, a => by
    have e : fm c a (x :: l) = fm c (min a (c x)) l := rfl
    rw [e]
    rcases fm_is c l (min a (c x)) with h | ⟨d, hd, h⟩
    · rw [h]
      by_cases hx : a ≤ c x
      · exact .inl (Nat.min_eq_left hx)
      · exact .inr ⟨x, by simp, (Nat.min_eq_right (by omega)).symm⟩
    · exact .inr ⟨d, by simp [hd], h⟩
theorem fm_take (c : Nat → Nat) (a : Nat) (L : List Nat) (j d : Nat) (h : L[j]? = some d) : fm c a (L.take (j + 1)) = min (fm c a (L.take j)) (c d) := by
  rw [List.take_add_one, h]
  simp [fm, List.foldl_append]
theorem fm_head (c : Nat → Nat) (x : Nat) (l : List Nat) : fm c (c x) (x :: l) = leastL c (x :: l) := by
  show fm c (min (c x) (c x)) l = fm c (c x) l
  rw [Nat.min_self]

theorem leastC_le (c m : Nat → Nat) (d : Nat) (h : d ∈ lst m) : leastC c m ≤ c d := by
  unfold leastC
  cases hL : lst m with
  | nil => rw [hL] at h; cases h
  | cons x l =>
    rw [hL] at h
    rcases List.mem_cons.1 h with rfl | h
    · exact fm_le c l _
    · exact fm_le_mem c l _ d h
theorem leastC_is (c m : Nat → Nat) (d : Nat) (h : d ∈ lst m) : ∃ e ∈ lst m, c e = leastC c m := by
  unfold leastC
  cases hL : lst m with
  | nil => rw [hL] at h; cases h
  | cons x l =>
    rcases fm_is c l (c x) with h | ⟨e, he, h⟩
    · exact ⟨x, by simp, h.symm⟩
    · exact ⟨e, by simp [he], h⟩
theorem leastC_all (c m : Nat → Nat) (d n : Nat) (h : d ∈ lst m) : n ≤ leastC c m ↔ ∀ e ∈ lst m, n ≤ c e := by
  constructor
  · intro hn e he
    exact Nat.le_trans hn (leastC_le c m e he)
  · intro hn
    obtain ⟨e, he, h⟩ := leastC_is c m d h
    rw [← h]
    exact hn e he
theorem leastC_lt (c m : Nat → Nat) (hc : ∀ i, c i < 4294967296) : leastC c m < 4294967296 := by
  cases hL : lst m with
  | nil => simp [leastC, hL, leastL]
  | cons x l => exact Nat.lt_of_le_of_lt (leastC_le c m x (by rw [hL]; simp)) (hc x)

def mayB (c m : Nat → Nat) (i : Int) : Bool := isM m i && decide (c i.toNat = leastC c m)
def fullB (c m : Nat → Nat) (r : Nat) : Bool := (lst m).all fun d => decide (r ≤ c d)
theorem fullB_iff (c m : Nat → Nat) (d r : Nat) (h : d ∈ lst m) : fullB c m r = decide (r ≤ leastC c m) := by
  rw [Bool.eq_iff_iff, decide_eq_true_eq, leastC_all c m d r h, fullB, List.all_eq_true]
  simp
theorem mayB_full (c m : Nat → Nat) (d : Nat) (h : d ∈ lst m) : mayB c m (d : Int) = fullB c m (c d) := by
  rw [fullB_iff c m d _ h, mayB, (isM_nat m d).2 h, Bool.true_and, Int.toNat_natCast]
  have := leastC_le c m d h
  rw [decide_eq_decide]
  omega

end Go.Proofs.Ytmnpbjaofemelaa
